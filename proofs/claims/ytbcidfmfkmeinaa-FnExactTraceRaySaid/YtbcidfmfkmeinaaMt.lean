/- Where a ray meets a plane face: the program. -/
import Derived.Test.YtbcidfmfkmeinaaSl
import Derived.Test.YtbcidfmfkmeinaaRw
import Derived.Test.YtbcidfmfkmeinaaIy
import Derived.Test.YtbcidfmfkmeinaaMe
namespace Go.Proofs.Ytbcidfmfkmeinaa
open Go.RowKit Fl
set_option linter.unusedVariables false
set_option linter.unusedSimpArgs false
set_option maxRecDepth 20000 in
set_option maxHeartbeats 12800000 in
theorem iMeet_true {g a : Nat → Nat} {G A : Nat → Option Nat} (hg : Gc g G) (ha : Rc a A) (hP : isPl (G 0) (G 1) = true) (w : World) : MV 17 #[Gv g, Rv a] w (meetC G A) := by
  unfold MV
  have H : Hid (Gc g G ∧ Rc a A) := ⟨hg, ha⟩
  have HP : Hid (isPl (G 0) (G 1) = true) := hP
  have HSh : Hid (∀ W, Calls Try.prog 30 #[Gv g] W fun e w' => e = .returned (shp true g) ∧ Below W.heap.size W w') := fun W => by have := iShape_any hg W; rw [hP] at this; exact this
  clear hg ha hP
  have hst := st64
  have hneg := neg_run
  have hnil := nil_plane
  have hmeth := mrun_plane
  go_enter Try.func17, Try.ntmps17
  have HO : Hid (Below w.heap.size w w) := Below.refl _ _
  go_upto_region 1 with fail
  obtain ⟨v1, hv⟩ : ∃ Xw, Xw = (((w.alloc (.cells #[.float .f64 (g 0), .float .f64 (g 1), .float .f64 (g 2), .float .f64 (g 3), .float .f64 (g 4)] 41)).alloc (.cells #[.float .f64 (a 0), .float .f64 (a 1), .float .f64 (a 2), .float .f64 (a 3), .float .f64 (a 4), .float .f64 (a 5)] 33)).alloc (.cells #[.int .i64 0, .int .i64 0, .float .f64 0, .float .f64 0, .float .f64 0, .float .f64 0, .float .f64 0, .float .f64 0, .float .f64 0, .float .f64 0, .float .f64 0, .float .f64 0, .float .f64 0, .float .f64 0, .float .f64 0] 43)) := ⟨_, rfl⟩
  rw [← hv]
  have ne_f_a : Hid (w.heap.size ≠ w.heap.size + 1) := by show (w.heap.size : Nat) ≠ w.heap.size + 1; omega
  have ne_f_res : Hid (w.heap.size ≠ w.heap.size + 1 + 1) := by show (w.heap.size : Nat) ≠ w.heap.size + 1 + 1; omega
  have ne_a_res : Hid (w.heap.size + 1 ≠ w.heap.size + 1 + 1) := by show (w.heap.size + 1 : Nat) ≠ w.heap.size + 1 + 1; omega
  have B_f : Hid (Blk v1 (w.heap.size) #[.float .f64 (g 0), .float .f64 (g 1), .float .f64 (g 2), .float .f64 (g 3), .float .f64 (g 4)] 41) := by show Blk v1 (w.heap.size) _ _; rw [hv]; exact (Blk.alloc (Blk.alloc (Blk.new (by simp)) _) _)
  have low_f : Hid (w.heap.size ≤ w.heap.size) := by show w.heap.size ≤ w.heap.size; have := HO.out.size; omega
  have B_a : Hid (Blk v1 (w.heap.size + 1) #[.float .f64 (a 0), .float .f64 (a 1), .float .f64 (a 2), .float .f64 (a 3), .float .f64 (a 4), .float .f64 (a 5)] 33) := by show Blk v1 (w.heap.size + 1) _ _; rw [hv]; exact (Blk.alloc (Blk.new (by simp)) _)
  have low_a : Hid (w.heap.size ≤ w.heap.size + 1) := by show w.heap.size ≤ w.heap.size + 1; have := HO.out.size; omega
  have B_res : Hid (Blk v1 (w.heap.size + 1 + 1) #[.int .i64 0, .int .i64 0, .float .f64 0, .float .f64 0, .float .f64 0, .float .f64 0, .float .f64 0, .float .f64 0, .float .f64 0, .float .f64 0, .float .f64 0, .float .f64 0, .float .f64 0, .float .f64 0, .float .f64 0] 43) := by show Blk v1 (w.heap.size + 1 + 1) _ _; rw [hv]; exact (Blk.new (by simp))
  have low_res : Hid (w.heap.size ≤ w.heap.size + 1 + 1) := by show w.heap.size ≤ w.heap.size + 1 + 1; have := HO.out.size; omega
  replace HO : Hid (Below w.heap.size w v1) := by show Below w.heap.size w v1; rw [hv]; exact (below_new (below_new (below_new HO.out _) _) _)
  clear hv
  go_upto_region 2 with fail
  obtain ⟨v2, hv⟩ : ∃ Xw, Xw = (v1.alloc (.cells #[.int .i64 4, .int .i64 0, .float .f64 0, .float .f64 0, .float .f64 0, .float .f64 0, .float .f64 0, .float .f64 0, .float .f64 0, .float .f64 0, .float .f64 0, .float .f64 0, .float .f64 0, .float .f64 0, .float .f64 0] 43)) := ⟨_, rfl⟩
  rw [← hv]
  have ne_f_no : Hid (w.heap.size ≠ v1.heap.size) := Nat.ne_of_lt (Nat.lt_of_lt_of_le B_f.out.lt (by omega))
  have ne_a_no : Hid (w.heap.size + 1 ≠ v1.heap.size) := Nat.ne_of_lt (Nat.lt_of_lt_of_le B_a.out.lt (by omega))
  have ne_res_no : Hid (w.heap.size + 1 + 1 ≠ v1.heap.size) := Nat.ne_of_lt (Nat.lt_of_lt_of_le B_res.out.lt (by omega))
  have B_no : Hid (Blk v2 (v1.heap.size) #[.int .i64 4, .int .i64 0, .float .f64 0, .float .f64 0, .float .f64 0, .float .f64 0, .float .f64 0, .float .f64 0, .float .f64 0, .float .f64 0, .float .f64 0, .float .f64 0, .float .f64 0, .float .f64 0, .float .f64 0] 43) := by show Blk v2 (v1.heap.size) _ _; rw [hv]; exact (Blk.new (by simp))
  have low_no : Hid (w.heap.size ≤ v1.heap.size) := by show w.heap.size ≤ v1.heap.size; have := HO.out.size; omega
  replace B_f : Hid (Blk v2 (w.heap.size) #[.float .f64 (g 0), .float .f64 (g 1), .float .f64 (g 2), .float .f64 (g 3), .float .f64 (g 4)] 41) := by show Blk v2 (w.heap.size) _ _; rw [hv]; exact (Blk.alloc B_f.out _)
  replace B_a : Hid (Blk v2 (w.heap.size + 1) #[.float .f64 (a 0), .float .f64 (a 1), .float .f64 (a 2), .float .f64 (a 3), .float .f64 (a 4), .float .f64 (a 5)] 33) := by show Blk v2 (w.heap.size + 1) _ _; rw [hv]; exact (Blk.alloc B_a.out _)
  replace B_res : Hid (Blk v2 (w.heap.size + 1 + 1) #[.int .i64 0, .int .i64 0, .float .f64 0, .float .f64 0, .float .f64 0, .float .f64 0, .float .f64 0, .float .f64 0, .float .f64 0, .float .f64 0, .float .f64 0, .float .f64 0, .float .f64 0, .float .f64 0, .float .f64 0] 43) := by show Blk v2 (w.heap.size + 1 + 1) _ _; rw [hv]; exact (Blk.alloc B_res.out _)
  replace HO : Hid (Below w.heap.size w v2) := by show Below w.heap.size w v2; rw [hv]; exact (below_new HO.out _)
  clear hv
  have hgt := gt_fc (H.out.2.h 5 (by decide)) fc_zero
  cases hN : gtO (A 5) zO
  case false =>
    have hD : Hid (meetC G A = none) := by show meetC G A = none; unfold meetC; rw [if_neg (by rw [hN]; simp)]
    rw [hN] at hgt
    clear hN
    have a_0 := B_a.out.cell (j := 0) rfl
    have a_1 := B_a.out.cell (j := 1) rfl
    have a_2 := B_a.out.cell (j := 2) rfl
    have a_3 := B_a.out.cell (j := 3) rfl
    have a_4 := B_a.out.cell (j := 4) rfl
    have a_5 := B_a.out.cell (j := 5) rfl
    have a_f := B_a.out.frozen
    have a_z := B_a.out.lt
    go_upto_region 3 with fail
    clear a_0 a_1 a_2 a_3 a_4 a_5 a_f a_z
    clear hgt
    have no_0 := B_no.out.cell (j := 0) rfl
    have no_1 := B_no.out.cell (j := 1) rfl
    have no_2 := B_no.out.cell (j := 2) rfl
    have no_3 := B_no.out.cell (j := 3) rfl
    have no_4 := B_no.out.cell (j := 4) rfl
    have no_5 := B_no.out.cell (j := 5) rfl
    have no_6 := B_no.out.cell (j := 6) rfl
    have no_7 := B_no.out.cell (j := 7) rfl
    have no_8 := B_no.out.cell (j := 8) rfl
    have no_9 := B_no.out.cell (j := 9) rfl
    have no_10 := B_no.out.cell (j := 10) rfl
    have no_11 := B_no.out.cell (j := 11) rfl
    have no_12 := B_no.out.cell (j := 12) rfl
    have no_13 := B_no.out.cell (j := 13) rfl
    have no_14 := B_no.out.cell (j := 14) rfl
    have no_f := B_no.out.frozen
    have no_z := B_no.out.lt
    skip
    repeat (first | (refine wpList_store_row rfl 43 _ _ rfl (w.heap.size + 1 + 1) #[.int .i64 4, .int .i64 0, .float .f64 0, .float .f64 0, .float .f64 0, .float .f64 0, .float .f64 0, .float .f64 0, .float .f64 0, .float .f64 0, .float .f64 0, .float .f64 0, .float .f64 0, .float .f64 0, .float .f64 0] rfl rfl 43 #[.int .i64 0, .int .i64 0, .float .f64 0, .float .f64 0, .float .f64 0, .float .f64 0, .float .f64 0, .float .f64 0, .float .f64 0, .float .f64 0, .float .f64 0, .float .f64 0, .float .f64 0, .float .f64 0, .float .f64 0] B_res.out (by kernel_rfl) rfl (by simp [Value.oneCell']) ?_) | go_step)
    refine bodyPost_ret (res_blk Try.results17 rfl (run_loadVar_row (P := Try.prog) _ _ 43 43 #[.int .i64 4, .int .i64 0, .float .f64 0, .float .f64 0, .float .f64 0, .float .f64 0, .float .f64 0, .float .f64 0, .float .f64 0, .float .f64 0, .float .f64 0, .float .f64 0, .float .f64 0, .float .f64 0, .float .f64 0] (0, 0) _ (Blk.setRow B_res.out) Try.underlying43 rfl (by kernel_rfl))) rfl ⟨0, (fun _ => 0), (fun _ => 0), by rw [hD.out]; rfl, by rw [hD.out]; exact hc_none, ?_⟩
    exact below_setRow HO.out low_res.out _
  case true =>
    have hD : Hid (meetC G A = hitC G A 20 0 (opC .quo (negO (A 2)) (A 5))) := by show meetC G A = _; unfold meetC; rw [if_pos hN]
    rw [hN] at hgt
    clear hN
    have a_0 := B_a.out.cell (j := 0) rfl
    have a_1 := B_a.out.cell (j := 1) rfl
    have a_2 := B_a.out.cell (j := 2) rfl
    have a_3 := B_a.out.cell (j := 3) rfl
    have a_4 := B_a.out.cell (j := 4) rfl
    have a_5 := B_a.out.cell (j := 5) rfl
    have a_f := B_a.out.frozen
    have a_z := B_a.out.lt
    go_upto_region 4 with fail
    clear a_0 a_1 a_2 a_3 a_4 a_5 a_f a_z
    clear hgt
    have f_0 := B_f.out.cell (j := 0) rfl
    have f_1 := B_f.out.cell (j := 1) rfl
    have f_2 := B_f.out.cell (j := 2) rfl
    have f_3 := B_f.out.cell (j := 3) rfl
    have f_4 := B_f.out.cell (j := 4) rfl
    have f_f := B_f.out.frozen
    have f_z := B_f.out.lt
    go_wp2_with fail
    refine (HSh.out _).mono ?_
    rintro e v3 ⟨rfl, hb⟩
    clear f_0 f_1 f_2 f_3 f_4 f_f f_z
    replace B_f : Hid (Blk v3 (w.heap.size) #[.float .f64 (g 0), .float .f64 (g 1), .float .f64 (g 2), .float .f64 (g 3), .float .f64 (g 4)] 41) := by show Blk v3 (w.heap.size) _ _; exact Blk.old B_f.out hb
    replace B_a : Hid (Blk v3 (w.heap.size + 1) #[.float .f64 (a 0), .float .f64 (a 1), .float .f64 (a 2), .float .f64 (a 3), .float .f64 (a 4), .float .f64 (a 5)] 33) := by show Blk v3 (w.heap.size + 1) _ _; exact Blk.old B_a.out hb
    replace B_res : Hid (Blk v3 (w.heap.size + 1 + 1) #[.int .i64 0, .int .i64 0, .float .f64 0, .float .f64 0, .float .f64 0, .float .f64 0, .float .f64 0, .float .f64 0, .float .f64 0, .float .f64 0, .float .f64 0, .float .f64 0, .float .f64 0, .float .f64 0, .float .f64 0] 43) := by show Blk v3 (w.heap.size + 1 + 1) _ _; exact Blk.old B_res.out hb
    replace B_no : Hid (Blk v3 (v1.heap.size) #[.int .i64 4, .int .i64 0, .float .f64 0, .float .f64 0, .float .f64 0, .float .f64 0, .float .f64 0, .float .f64 0, .float .f64 0, .float .f64 0, .float .f64 0, .float .f64 0, .float .f64 0, .float .f64 0, .float .f64 0] 43) := by show Blk v3 (v1.heap.size) _ _; exact Blk.old B_no.out hb
    replace HO : Hid (Below w.heap.size w v3) := box_step HO.out hb (Nat.le_refl _)
    clear hb
    go_upto_region 5 with fail
    obtain ⟨s4, q4, h4, F4⟩ := flop .quo (by simp) ((fc_neg ((H.out.2.h 2 (by decide))))) ((H.out.2.h 5 (by decide))) v3
    replace F4 : Hid _ := F4
    have a_0 := B_a.out.cell (j := 0) rfl
    have a_1 := B_a.out.cell (j := 1) rfl
    have a_2 := B_a.out.cell (j := 2) rfl
    have a_3 := B_a.out.cell (j := 3) rfl
    have a_4 := B_a.out.cell (j := 4) rfl
    have a_5 := B_a.out.cell (j := 5) rfl
    have a_f := B_a.out.frozen
    have a_z := B_a.out.lt
    go_upto_region 6 with fail
    clear a_0 a_1 a_2 a_3 a_4 a_5 a_f a_z
    obtain ⟨v5, hv⟩ : ∃ Xw, Xw = (v3.drewN (q4)) := ⟨_, rfl⟩
    rw [← hv]
    clear h4
    replace B_f : Hid (Blk v5 (w.heap.size) #[.float .f64 (g 0), .float .f64 (g 1), .float .f64 (g 2), .float .f64 (g 3), .float .f64 (g 4)] 41) := by show Blk v5 (w.heap.size) _ _; rw [hv]; exact (Blk.drewN B_f.out _)
    replace B_a : Hid (Blk v5 (w.heap.size + 1) #[.float .f64 (a 0), .float .f64 (a 1), .float .f64 (a 2), .float .f64 (a 3), .float .f64 (a 4), .float .f64 (a 5)] 33) := by show Blk v5 (w.heap.size + 1) _ _; rw [hv]; exact (Blk.drewN B_a.out _)
    replace B_res : Hid (Blk v5 (w.heap.size + 1 + 1) #[.int .i64 0, .int .i64 0, .float .f64 0, .float .f64 0, .float .f64 0, .float .f64 0, .float .f64 0, .float .f64 0, .float .f64 0, .float .f64 0, .float .f64 0, .float .f64 0, .float .f64 0, .float .f64 0, .float .f64 0] 43) := by show Blk v5 (w.heap.size + 1 + 1) _ _; rw [hv]; exact (Blk.drewN B_res.out _)
    replace B_no : Hid (Blk v5 (v1.heap.size) #[.int .i64 4, .int .i64 0, .float .f64 0, .float .f64 0, .float .f64 0, .float .f64 0, .float .f64 0, .float .f64 0, .float .f64 0, .float .f64 0, .float .f64 0, .float .f64 0, .float .f64 0, .float .f64 0, .float .f64 0] 43) := by show Blk v5 (v1.heap.size) _ _; rw [hv]; exact (Blk.drewN B_no.out _)
    replace HO : Hid (Below w.heap.size w v5) := by show Below w.heap.size w v5; rw [hv]; exact (below_drewN HO.out _)
    clear hv
    go_wp2_with fail
    go_loopw [7, 29] (fun s7 s29 wr => ∃ (k l : Nat) (L : Option Nat), k ≤ 20 ∧ s7 = .float .f64 l ∧ s29 = .int .i64 k ∧ Hid ((Fc l L ∧ meetC G A = hitC G A (20 - k) k L) ∧ Blk wr (w.heap.size) #[.float .f64 (g 0), .float .f64 (g 1), .float .f64 (g 2), .float .f64 (g 3), .float .f64 (g 4)] 41 ∧ Blk wr (w.heap.size + 1) #[.float .f64 (a 0), .float .f64 (a 1), .float .f64 (a 2), .float .f64 (a 3), .float .f64 (a 4), .float .f64 (a 5)] 33 ∧ Blk wr (w.heap.size + 1 + 1) #[.int .i64 0, .int .i64 0, .float .f64 0, .float .f64 0, .float .f64 0, .float .f64 0, .float .f64 0, .float .f64 0, .float .f64 0, .float .f64 0, .float .f64 0, .float .f64 0, .float .f64 0, .float .f64 0, .float .f64 0] 43 ∧ Blk wr (v1.heap.size) #[.int .i64 4, .int .i64 0, .float .f64 0, .float .f64 0, .float .f64 0, .float .f64 0, .float .f64 0, .float .f64 0, .float .f64 0, .float .f64 0, .float .f64 0, .float .f64 0, .float .f64 0, .float .f64 0, .float .f64 0] 43 ∧ Below w.heap.size w wr)) (fun _ s29 _ => 20 - (intOf s29).toNat)
    case atStart => exact ⟨0, _, _, by omega, rfl, rfl, ⟨F4.out, hD.out⟩, B_f.out, B_a.out, B_res.out, B_no.out, HO.out⟩
    case round =>
      clear HO B_f B_a B_res B_no hD
      obtain ⟨k, l, L, hk, rfl, rfl, HH⟩ := hrel
      have B_f : Hid (Blk wr (w.heap.size) #[.float .f64 (g 0), .float .f64 (g 1), .float .f64 (g 2), .float .f64 (g 3), .float .f64 (g 4)] 41) := HH.out.2.1
      have B_a : Hid (Blk wr (w.heap.size + 1) #[.float .f64 (a 0), .float .f64 (a 1), .float .f64 (a 2), .float .f64 (a 3), .float .f64 (a 4), .float .f64 (a 5)] 33) := HH.out.2.2.1
      have B_res : Hid (Blk wr (w.heap.size + 1 + 1) #[.int .i64 0, .int .i64 0, .float .f64 0, .float .f64 0, .float .f64 0, .float .f64 0, .float .f64 0, .float .f64 0, .float .f64 0, .float .f64 0, .float .f64 0, .float .f64 0, .float .f64 0, .float .f64 0, .float .f64 0] 43) := HH.out.2.2.2.1
      have B_no : Hid (Blk wr (v1.heap.size) #[.int .i64 4, .int .i64 0, .float .f64 0, .float .f64 0, .float .f64 0, .float .f64 0, .float .f64 0, .float .f64 0, .float .f64 0, .float .f64 0, .float .f64 0, .float .f64 0, .float .f64 0, .float .f64 0, .float .f64 0] 43) := HH.out.2.2.2.2.1
      have HO : Hid (Below w.heap.size w wr) := HH.out.2.2.2.2.2
      have HL : Hid (Fc l L ∧ meetC G A = hitC G A (20 - k) k L) := HH.out.1
      clear HH
      by_cases hk2 : k < 20
      case neg =>
        obtain rfl : k = 20 := by omega
        have hD : Hid (meetC G A = none) := HL.out.2
        go_upto_region 22 with fail
        have no_0 := B_no.out.cell (j := 0) rfl
        have no_1 := B_no.out.cell (j := 1) rfl
        have no_2 := B_no.out.cell (j := 2) rfl
        have no_3 := B_no.out.cell (j := 3) rfl
        have no_4 := B_no.out.cell (j := 4) rfl
        have no_5 := B_no.out.cell (j := 5) rfl
        have no_6 := B_no.out.cell (j := 6) rfl
        have no_7 := B_no.out.cell (j := 7) rfl
        have no_8 := B_no.out.cell (j := 8) rfl
        have no_9 := B_no.out.cell (j := 9) rfl
        have no_10 := B_no.out.cell (j := 10) rfl
        have no_11 := B_no.out.cell (j := 11) rfl
        have no_12 := B_no.out.cell (j := 12) rfl
        have no_13 := B_no.out.cell (j := 13) rfl
        have no_14 := B_no.out.cell (j := 14) rfl
        have no_f := B_no.out.frozen
        have no_z := B_no.out.lt
        skip
        repeat (first | (refine wpList_store_row rfl 43 _ _ rfl (w.heap.size + 1 + 1) #[.int .i64 4, .int .i64 0, .float .f64 0, .float .f64 0, .float .f64 0, .float .f64 0, .float .f64 0, .float .f64 0, .float .f64 0, .float .f64 0, .float .f64 0, .float .f64 0, .float .f64 0, .float .f64 0, .float .f64 0] rfl rfl 43 #[.int .i64 0, .int .i64 0, .float .f64 0, .float .f64 0, .float .f64 0, .float .f64 0, .float .f64 0, .float .f64 0, .float .f64 0, .float .f64 0, .float .f64 0, .float .f64 0, .float .f64 0, .float .f64 0, .float .f64 0] B_res.out (by kernel_rfl) rfl (by simp [Value.oneCell']) ?_) | go_step)
        refine bodyPost_ret (res_blk Try.results17 rfl (run_loadVar_row (P := Try.prog) _ _ 43 43 #[.int .i64 4, .int .i64 0, .float .f64 0, .float .f64 0, .float .f64 0, .float .f64 0, .float .f64 0, .float .f64 0, .float .f64 0, .float .f64 0, .float .f64 0, .float .f64 0, .float .f64 0, .float .f64 0, .float .f64 0] (0, 0) _ (Blk.setRow B_res.out) Try.underlying43 rfl (by kernel_rfl))) rfl ⟨0, (fun _ => 0), (fun _ => 0), by rw [hD.out]; rfl, by rw [hD.out]; exact hc_none, ?_⟩
        exact below_setRow HO.out low_res.out _
      case pos =>
        have hkI : (k : Int) < 20 := by omega
        have h20 : 20 - k = (20 - (k + 1)) + 1 := by omega
        have HL2 : Hid (meetC G A = hitC G A ((20 - (k + 1)) + 1) k L) := by show meetC G A = _; rw [← h20]; exact HL.out.2
        clear h20
        go_upto_region 9 with fail
        have a_0 := B_a.out.cell (j := 0) rfl
        have a_1 := B_a.out.cell (j := 1) rfl
        have a_2 := B_a.out.cell (j := 2) rfl
        have a_3 := B_a.out.cell (j := 3) rfl
        have a_4 := B_a.out.cell (j := 4) rfl
        have a_5 := B_a.out.cell (j := 5) rfl
        have a_f := B_a.out.frozen
        have a_z := B_a.out.lt
        go_wp2_with fail
        refine (iAt_any H.out.2 HL.out.1 _).mono ?_
        rintro e v6 ⟨z, rfl, hz, hb⟩
        clear a_0 a_1 a_2 a_3 a_4 a_5 a_f a_z
        replace B_f : Hid (Blk v6 (w.heap.size) #[.float .f64 (g 0), .float .f64 (g 1), .float .f64 (g 2), .float .f64 (g 3), .float .f64 (g 4)] 41) := by show Blk v6 (w.heap.size) _ _; exact Blk.old B_f.out hb
        replace B_a : Hid (Blk v6 (w.heap.size + 1) #[.float .f64 (a 0), .float .f64 (a 1), .float .f64 (a 2), .float .f64 (a 3), .float .f64 (a 4), .float .f64 (a 5)] 33) := by show Blk v6 (w.heap.size + 1) _ _; exact Blk.old B_a.out hb
        replace B_res : Hid (Blk v6 (w.heap.size + 1 + 1) #[.int .i64 0, .int .i64 0, .float .f64 0, .float .f64 0, .float .f64 0, .float .f64 0, .float .f64 0, .float .f64 0, .float .f64 0, .float .f64 0, .float .f64 0, .float .f64 0, .float .f64 0, .float .f64 0, .float .f64 0] 43) := by show Blk v6 (w.heap.size + 1 + 1) _ _; exact Blk.old B_res.out hb
        replace B_no : Hid (Blk v6 (v1.heap.size) #[.int .i64 4, .int .i64 0, .float .f64 0, .float .f64 0, .float .f64 0, .float .f64 0, .float .f64 0, .float .f64 0, .float .f64 0, .float .f64 0, .float .f64 0, .float .f64 0, .float .f64 0, .float .f64 0, .float .f64 0] 43) := by show Blk v6 (v1.heap.size) _ _; exact Blk.old B_no.out hb
        replace HO : Hid (Below w.heap.size w v6) := box_step HO.out hb (Nat.le_refl _)
        clear hb
        replace hz : Hid _ := hz
        go_upto_region 10 with fail
        obtain ⟨v7, hv⟩ : ∃ Xw, Xw = (v6.alloc (.cells #[.float .f64 (z 0), .float .f64 (z 1), .float .f64 (z 2), .float .f64 (z 3), .float .f64 (z 4), .float .f64 (z 5)] 33)) := ⟨_, rfl⟩
        rw [← hv]
        have ne_f_z : Hid (w.heap.size ≠ v6.heap.size) := Nat.ne_of_lt (Nat.lt_of_lt_of_le B_f.out.lt (by omega))
        have ne_a_z : Hid (w.heap.size + 1 ≠ v6.heap.size) := Nat.ne_of_lt (Nat.lt_of_lt_of_le B_a.out.lt (by omega))
        have ne_res_z : Hid (w.heap.size + 1 + 1 ≠ v6.heap.size) := Nat.ne_of_lt (Nat.lt_of_lt_of_le B_res.out.lt (by omega))
        have ne_no_z : Hid (v1.heap.size ≠ v6.heap.size) := Nat.ne_of_lt (Nat.lt_of_lt_of_le B_no.out.lt (by omega))
        have B_z : Hid (Blk v7 (v6.heap.size) #[.float .f64 (z 0), .float .f64 (z 1), .float .f64 (z 2), .float .f64 (z 3), .float .f64 (z 4), .float .f64 (z 5)] 33) := by show Blk v7 (v6.heap.size) _ _; rw [hv]; exact (Blk.new (by simp))
        have low_z : Hid (w.heap.size ≤ v6.heap.size) := by show w.heap.size ≤ v6.heap.size; have := HO.out.size; omega
        replace B_f : Hid (Blk v7 (w.heap.size) #[.float .f64 (g 0), .float .f64 (g 1), .float .f64 (g 2), .float .f64 (g 3), .float .f64 (g 4)] 41) := by show Blk v7 (w.heap.size) _ _; rw [hv]; exact (Blk.alloc B_f.out _)
        replace B_a : Hid (Blk v7 (w.heap.size + 1) #[.float .f64 (a 0), .float .f64 (a 1), .float .f64 (a 2), .float .f64 (a 3), .float .f64 (a 4), .float .f64 (a 5)] 33) := by show Blk v7 (w.heap.size + 1) _ _; rw [hv]; exact (Blk.alloc B_a.out _)
        replace B_res : Hid (Blk v7 (w.heap.size + 1 + 1) #[.int .i64 0, .int .i64 0, .float .f64 0, .float .f64 0, .float .f64 0, .float .f64 0, .float .f64 0, .float .f64 0, .float .f64 0, .float .f64 0, .float .f64 0, .float .f64 0, .float .f64 0, .float .f64 0, .float .f64 0] 43) := by show Blk v7 (w.heap.size + 1 + 1) _ _; rw [hv]; exact (Blk.alloc B_res.out _)
        replace B_no : Hid (Blk v7 (v1.heap.size) #[.int .i64 4, .int .i64 0, .float .f64 0, .float .f64 0, .float .f64 0, .float .f64 0, .float .f64 0, .float .f64 0, .float .f64 0, .float .f64 0, .float .f64 0, .float .f64 0, .float .f64 0, .float .f64 0, .float .f64 0] 43) := by show Blk v7 (v1.heap.size) _ _; rw [hv]; exact (Blk.alloc B_no.out _)
        replace HO : Hid (Below w.heap.size w v7) := by show Below w.heap.size w v7; rw [hv]; exact (below_new HO.out _)
        clear hv
        have HPl : Hid ((sagC (G 0) (G 1) (sqr (posC A L 0) (posC A L 1))) = (planeC (G 0) (sqr (posC A L 0) (posC A L 1)))) := plane_is (H.out.1.h 0 (by decide)).wc (H.out.1.h 1 (by decide)).wc (hz.out.h 0 (by decide)).wc (hz.out.h 1 (by decide)).wc HP.out
        have HV : Hid (∀ (zr : Nat), Fc zr (sqr (posC A L 0) (posC A L 1)) → ∀ W, SV 68 #[.agg #[.float .f64 (g 0)], .float .f64 zr] W (sagC (G 0) (G 1) (sqr (posC A L 0) (posC A L 1)))) := fun zr hzr W => by rw [HPl.out]; exact iPlane_any (H.out.1.h 0 (by decide)) hzr W
        unfold shp
        obtain ⟨SGv, hSG⟩ : ∃ o, o = (sagC (G 0) (G 1) (sqr (posC A L 0) (posC A L 1))) := ⟨_, rfl⟩
        rw [← hSG] at HV
        replace hSG : Hid (SGv = (sagC (G 0) (G 1) (sqr (posC A L 0) (posC A L 1)))) := hSG
        have lowv : Hid (w.heap.size ≤ v7.heap.size) := HO.out.size
        go_wp2_with fail
        go_cut [10] from 35 to 44 (fun p wx => ∃ (kx : Nat) (zs : Nat) (zu : Nat), p = .pointer (some ⟨kx, 0, none⟩) ∧ (v7.heap.size ≤ kx ∧ Blk wx kx #[.int .i64 (codeOf SGv), .float .f64 zs, .float .f64 zu] 58) ∧ Below v7.heap.size v7 wx ∧ (Fc zs (sgS SGv) ∧ Fc zu (sgU SGv)))
        case first =>
          refine letA ?_
          intro a0 ha0
          have e6 : a0.tmps[6]?.getD undef = .iface 79 (.agg #[.float .f64 (g 0)]) := by rw [ha0]; rfl
          have e9 : a0.tmps[9]?.getD undef = .pointer (some ⟨v6.heap.size, 0, none⟩) := by rw [ha0]; rfl
          have hsz : a0.tmps.size = 96 := by rw [ha0]; rfl
          replace ha0 : Hid (a0 = _) := ha0
          obtain ⟨LL, hLL⟩ : ∃ LL : Nat → Nat → Nat → Nat → List Lay, LL = fun kx zr zs zu => [⟨0, 35, .iface 79 (.agg #[.float .f64 (g 0)])⟩, ⟨1, 36, .pointer (some ⟨v6.heap.size, 0, none⟩)⟩, ⟨2, 37, .float .f64 (z 0)⟩, ⟨3, 38, .pointer (some ⟨v6.heap.size, 1, none⟩)⟩, ⟨4, 39, .float .f64 (z 1)⟩, ⟨5, 40, .float .f64 zr⟩, ⟨6, 41, .func (Fn.method "loop.example/g00049/impl.sagAt") #[.iface 79 (.agg #[.float .f64 (g 0)])] #[]⟩, ⟨7, 42, .func (Fn.method "loop.example/g00049/impl.sagAt") #[.iface 79 (.agg #[.float .f64 (g 0)])] #[]⟩, ⟨8, 43, .iface 79 (.agg #[.float .f64 (g 0)])⟩, ⟨9, 44, .agg #[.int .i64 (codeOf SGv), .float .f64 zs, .float .f64 zu]⟩, ⟨10, 10, .pointer (some ⟨kx, 0, none⟩)⟩] := ⟨_, rfl⟩
          have hpw : ∀ kx zr zs zu, (LL kx zr zs zu).Pairwise (fun x y => x.d ≠ y.d ∧ x.i ≠ y.i) := by intro kx zr zs zu; rw [hLL]; simp
          have m0 : ∀ kx zr zs zu, (⟨0, 35, .iface 79 (.agg #[.float .f64 (g 0)])⟩ : Lay) ∈ LL kx zr zs zu := by intro kx zr zs zu; rw [hLL]; simp
          have m1 : ∀ kx zr zs zu, (⟨1, 36, .pointer (some ⟨v6.heap.size, 0, none⟩)⟩ : Lay) ∈ LL kx zr zs zu := by intro kx zr zs zu; rw [hLL]; simp
          have m2 : ∀ kx zr zs zu, (⟨2, 37, .float .f64 (z 0)⟩ : Lay) ∈ LL kx zr zs zu := by intro kx zr zs zu; rw [hLL]; simp
          have m3 : ∀ kx zr zs zu, (⟨3, 38, .pointer (some ⟨v6.heap.size, 1, none⟩)⟩ : Lay) ∈ LL kx zr zs zu := by intro kx zr zs zu; rw [hLL]; simp
          have m4 : ∀ kx zr zs zu, (⟨4, 39, .float .f64 (z 1)⟩ : Lay) ∈ LL kx zr zs zu := by intro kx zr zs zu; rw [hLL]; simp
          have m5 : ∀ kx zr zs zu, (⟨5, 40, .float .f64 zr⟩ : Lay) ∈ LL kx zr zs zu := by intro kx zr zs zu; rw [hLL]; simp
          have m6 : ∀ kx zr zs zu, (⟨6, 41, .func (Fn.method "loop.example/g00049/impl.sagAt") #[.iface 79 (.agg #[.float .f64 (g 0)])] #[]⟩ : Lay) ∈ LL kx zr zs zu := by intro kx zr zs zu; rw [hLL]; simp
          have m7 : ∀ kx zr zs zu, (⟨7, 42, .func (Fn.method "loop.example/g00049/impl.sagAt") #[.iface 79 (.agg #[.float .f64 (g 0)])] #[]⟩ : Lay) ∈ LL kx zr zs zu := by intro kx zr zs zu; rw [hLL]; simp
          have m8 : ∀ kx zr zs zu, (⟨8, 43, .iface 79 (.agg #[.float .f64 (g 0)])⟩ : Lay) ∈ LL kx zr zs zu := by intro kx zr zs zu; rw [hLL]; simp
          have m9 : ∀ kx zr zs zu, (⟨9, 44, .agg #[.int .i64 (codeOf SGv), .float .f64 zs, .float .f64 zu]⟩ : Lay) ∈ LL kx zr zs zu := by intro kx zr zs zu; rw [hLL]; simp
          have m10 : ∀ kx zr zs zu, (⟨10, 10, .pointer (some ⟨kx, 0, none⟩)⟩ : Lay) ∈ LL kx zr zs zu := by intro kx zr zs zu; rw [hLL]; simp
          have n6 : ∀ kx zr zs zu, ∀ x ∈ LL kx zr zs zu, x.d ≠ 6 := by intro kx zr zs zu; rw [hLL]; simp
          have n9 : ∀ kx zr zs zu, ∀ x ∈ LL kx zr zs zu, x.d ≠ 9 := by intro kx zr zs zu; rw [hLL]; simp
          replace hLL : Hid (LL = _) := hLL
          refine wp_region_inv (by kernel_rfl) (fun ls a W => ∃ kx zr zs zu : Nat, a = fillA a0 ls (LL kx zr zs zu) ∧ Below v7.heap.size v7 W ∧ (ls.getD 5 false = true → Fc zr (sqr (posC A L 0) (posC A L 1))) ∧ (ls.getD 9 false = true → (Fc zs (sgS SGv) ∧ Fc zu (sgU SGv))) ∧ (ls.getD 10 false = true → v7.heap.size ≤ kx ∧ Blk W kx (cond (ls.getD 11 false) #[.int .i64 (codeOf SGv), .float .f64 zs, .float .f64 zu] #[.int .i64 0, .float .f64 0, .float .f64 0]) 58) ∧ (ls.getD 11 false = true → ls.getD 10 false = true ∧ ls.getD 9 false = true)) (ahead_of (by decide +kernel)) ?_ ?_ ?_
          · exact ⟨0, 0, 0, 0, fill_none.symm, (Below.refl _ _).drew, fun h => absurd h (by rw [getD_none]; simp), fun h => absurd h (by rw [getD_none]; simp), fun h => absurd h (by rw [getD_none]; simp), fun h => absurd h (by rw [getD_none]; simp)⟩
          · intro ls a W i hs hI hi
            obtain ⟨kx, zr, zs, zu, rfl, hB, h5, h9, hal, hst2⟩ := hI
            obtain ⟨hun, oi, hoi, hdep⟩ := mem_ready.1 hi
            have hlt : i < 12 := by have := (Array.getElem?_eq_some_iff.1 hoi).1; simpa using this
            have hls : ls.size = 12 := by rw [hs]; rfl
            clear hi hs
            rcases (show i = 0 ∨ i = 1 ∨ i = 2 ∨ i = 3 ∨ i = 4 ∨ i = 5 ∨ i = 6 ∨ i = 7 ∨ i = 8 ∨ i = 9 ∨ i = 10 ∨ i = 11 by omega) with rfl | rfl | rfl | rfl | rfl | rfl | rfl | rfl | rfl | rfl | rfl | rfl
            · skip
              have hu := un_of (show 0 < ls.size by omega) hun
              simp at hoi
              subst hoi
              have x6 := fill_otherT (listed := ls) (n6 kx zr zs zu) e6
              clear hdep
              generalize hA : fillA a0 ls (LL kx zr zs zu) = af at *
              refine wpOp_intro rfl rfl fun K' hK => ?_
              go_simp
              refine hK _ _ ?_
              refine ⟨kx, zr, zs, zu, ?_, hB, ?_, ?_, ?_, ?_⟩
              · rw [← hA]; exact fill_put (by omega) hu (hpw kx zr zs zu) (m0 kx zr zs zu)
              · intro h; rw [getD_set_ne false (by decide)] at h; exact h5 h
              · intro h; rw [getD_set_ne false (by decide)] at h; exact h9 h
              · intro h; rw [getD_set_ne false (by decide)] at h; rw [getD_set_ne false (by decide)]; exact hal h
              · intro h; rw [getD_set_ne false (by decide)] at h; rw [getD_set_ne false (by decide), getD_set_ne false (by decide)]; exact hst2 h
            · skip
              have hu := un_of (show 1 < ls.size by omega) hun
              simp at hoi
              subst hoi
              have x9 := fill_otherT (listed := ls) (n9 kx zr zs zu) e9
              clear hdep
              generalize hA : fillA a0 ls (LL kx zr zs zu) = af at *
              refine wpOp_intro rfl rfl fun K' hK => ?_
              go_simp
              refine hK _ _ ?_
              refine ⟨kx, zr, zs, zu, ?_, hB, ?_, ?_, ?_, ?_⟩
              · rw [← hA]; exact fill_put (by omega) hu (hpw kx zr zs zu) (m1 kx zr zs zu)
              · intro h; rw [getD_set_ne false (by decide)] at h; exact h5 h
              · intro h; rw [getD_set_ne false (by decide)] at h; exact h9 h
              · intro h; rw [getD_set_ne false (by decide)] at h; rw [getD_set_ne false (by decide)]; exact hal h
              · intro h; rw [getD_set_ne false (by decide)] at h; rw [getD_set_ne false (by decide), getD_set_ne false (by decide)]; exact hst2 h
            · skip
              have hu := un_of (show 2 < ls.size by omega) hun
              simp at hoi
              subst hoi
              have d1 : ls.getD 1 false = true := hdep ⟨1, .data⟩ (by simp) (by decide)
              have x36 := fill_evalT (a0 := a0) (listed := ls) (hpw kx zr zs zu) (m1 kx zr zs zu) d1 (by rw [hsz]; decide)
              clear hdep
              have hcell := kold hB (B_z.out.cell (j := 0) rfl)
              generalize hA : fillA a0 ls (LL kx zr zs zu) = af at *
              refine wpOp_intro rfl rfl fun K' hK => ?_
              go_simp
              refine hK _ _ ?_
              refine ⟨kx, zr, zs, zu, ?_, hB, ?_, ?_, ?_, ?_⟩
              · rw [← hA]; exact fill_put (by omega) hu (hpw kx zr zs zu) (m2 kx zr zs zu)
              · intro h; rw [getD_set_ne false (by decide)] at h; exact h5 h
              · intro h; rw [getD_set_ne false (by decide)] at h; exact h9 h
              · intro h; rw [getD_set_ne false (by decide)] at h; rw [getD_set_ne false (by decide)]; exact hal h
              · intro h; rw [getD_set_ne false (by decide)] at h; rw [getD_set_ne false (by decide), getD_set_ne false (by decide)]; exact hst2 h
            · skip
              have hu := un_of (show 3 < ls.size by omega) hun
              simp at hoi
              subst hoi
              have x9 := fill_otherT (listed := ls) (n9 kx zr zs zu) e9
              clear hdep
              generalize hA : fillA a0 ls (LL kx zr zs zu) = af at *
              refine wpOp_intro rfl rfl fun K' hK => ?_
              go_simp
              refine hK _ _ ?_
              refine ⟨kx, zr, zs, zu, ?_, hB, ?_, ?_, ?_, ?_⟩
              · rw [← hA]; exact fill_put (by omega) hu (hpw kx zr zs zu) (m3 kx zr zs zu)
              · intro h; rw [getD_set_ne false (by decide)] at h; exact h5 h
              · intro h; rw [getD_set_ne false (by decide)] at h; exact h9 h
              · intro h; rw [getD_set_ne false (by decide)] at h; rw [getD_set_ne false (by decide)]; exact hal h
              · intro h; rw [getD_set_ne false (by decide)] at h; rw [getD_set_ne false (by decide), getD_set_ne false (by decide)]; exact hst2 h
            · skip
              have hu := un_of (show 4 < ls.size by omega) hun
              simp at hoi
              subst hoi
              have d3 : ls.getD 3 false = true := hdep ⟨3, .data⟩ (by simp) (by decide)
              have x38 := fill_evalT (a0 := a0) (listed := ls) (hpw kx zr zs zu) (m3 kx zr zs zu) d3 (by rw [hsz]; decide)
              clear hdep
              have hcell := kold hB (B_z.out.cell (j := 1) rfl)
              generalize hA : fillA a0 ls (LL kx zr zs zu) = af at *
              refine wpOp_intro rfl rfl fun K' hK => ?_
              go_simp
              refine hK _ _ ?_
              refine ⟨kx, zr, zs, zu, ?_, hB, ?_, ?_, ?_, ?_⟩
              · rw [← hA]; exact fill_put (by omega) hu (hpw kx zr zs zu) (m4 kx zr zs zu)
              · intro h; rw [getD_set_ne false (by decide)] at h; exact h5 h
              · intro h; rw [getD_set_ne false (by decide)] at h; exact h9 h
              · intro h; rw [getD_set_ne false (by decide)] at h; rw [getD_set_ne false (by decide)]; exact hal h
              · intro h; rw [getD_set_ne false (by decide)] at h; rw [getD_set_ne false (by decide), getD_set_ne false (by decide)]; exact hst2 h
            · skip
              have hu := un_of (show 5 < ls.size by omega) hun
              simp at hoi
              subst hoi
              have d2 : ls.getD 2 false = true := hdep ⟨2, .data⟩ (by simp) (by decide)
              have d4 : ls.getD 4 false = true := hdep ⟨4, .data⟩ (by simp) (by decide)
              have x37 := fill_evalT (a0 := a0) (listed := ls) (hpw kx zr zs zu) (m2 kx zr zs zu) d2 (by rw [hsz]; decide)
              have x39 := fill_evalT (a0 := a0) (listed := ls) (hpw kx zr zs zu) (m4 kx zr zs zu) d4 (by rw [hsz]; decide)
              clear hdep
              have hsame : ∀ zr2, fillA a0 ls (LL kx zr zs zu) = fillA a0 ls (LL kx zr2 zs zu) := by intro zr2; apply fill_same; rw [hLL.out]; simp [SameL, hu]
              generalize hA : fillA a0 ls (LL kx zr zs zu) = af at *
              refine wpOp_intro rfl rfl fun K' hK => ?_
              go_simp
              first | go_at_call 32 | (trace_state; fail)
              refine (iSquare_any (hz.out.h 0 (by decide)) (hz.out.h 1 (by decide)) _).mono ?_
              rintro e W2 ⟨zr2, rfl, hzr, hb1⟩
              refine hK _ _ ?_
              refine ⟨kx, zr2, zs, zu, ?_, box_step hB hb1 (Nat.le_refl _), ?_, ?_, ?_, ?_⟩
              · first | (rw [hsame zr2]; exact fill_put (by omega) hu (hpw kx zr2 zs zu) (m5 kx zr2 zs zu)) | exact fill_put (by omega) hu (hpw kx zr2 zs zu) (m5 kx zr2 zs zu)
              · intro h; exact hzr
              · intro h; rw [getD_set_ne false (by decide)] at h; exact h9 h
              · intro h; rw [getD_set_ne false (by decide)] at h; rw [getD_set_ne false (by decide)]; exact ⟨(hal h).1, (hal h).2.old hb1⟩
              · intro h; rw [getD_set_ne false (by decide)] at h; rw [getD_set_ne false (by decide), getD_set_ne false (by decide)]; exact hst2 h
            · skip
              have hu := un_of (show 6 < ls.size by omega) hun
              simp at hoi
              subst hoi
              have d0 : ls.getD 0 false = true := hdep ⟨0, .data⟩ (by simp) (by decide)
              have x35 := fill_evalT (a0 := a0) (listed := ls) (hpw kx zr zs zu) (m0 kx zr zs zu) d0 (by rw [hsz]; decide)
              clear hdep
              generalize hA : fillA a0 ls (LL kx zr zs zu) = af at *
              refine wpOp_intro rfl rfl fun K' hK => ?_
              go_simp
              refine hK _ _ ?_
              refine ⟨kx, zr, zs, zu, ?_, hB, ?_, ?_, ?_, ?_⟩
              · rw [← hA]; exact fill_put (by omega) hu (hpw kx zr zs zu) (m6 kx zr zs zu)
              · intro h; rw [getD_set_ne false (by decide)] at h; exact h5 h
              · intro h; rw [getD_set_ne false (by decide)] at h; exact h9 h
              · intro h; rw [getD_set_ne false (by decide)] at h; rw [getD_set_ne false (by decide)]; exact hal h
              · intro h; rw [getD_set_ne false (by decide)] at h; rw [getD_set_ne false (by decide), getD_set_ne false (by decide)]; exact hst2 h
            · skip
              have hu := un_of (show 7 < ls.size by omega) hun
              simp at hoi
              subst hoi
              have d6 : ls.getD 6 false = true := hdep ⟨6, .data⟩ (by simp) (by decide)
              have x41 := fill_evalT (a0 := a0) (listed := ls) (hpw kx zr zs zu) (m6 kx zr zs zu) d6 (by rw [hsz]; decide)
              clear hdep
              generalize hA : fillA a0 ls (LL kx zr zs zu) = af at *
              refine wpOp_intro rfl rfl fun K' hK => ?_
              go_simp
              refine hK _ _ ?_
              refine ⟨kx, zr, zs, zu, ?_, hB, ?_, ?_, ?_, ?_⟩
              · rw [← hA]; exact fill_put (by omega) hu (hpw kx zr zs zu) (m7 kx zr zs zu)
              · intro h; rw [getD_set_ne false (by decide)] at h; exact h5 h
              · intro h; rw [getD_set_ne false (by decide)] at h; exact h9 h
              · intro h; rw [getD_set_ne false (by decide)] at h; rw [getD_set_ne false (by decide)]; exact hal h
              · intro h; rw [getD_set_ne false (by decide)] at h; rw [getD_set_ne false (by decide), getD_set_ne false (by decide)]; exact hst2 h
            · skip
              have hu := un_of (show 8 < ls.size by omega) hun
              simp at hoi
              subst hoi
              have d0 : ls.getD 0 false = true := hdep ⟨0, .data⟩ (by simp) (by decide)
              have x35 := fill_evalT (a0 := a0) (listed := ls) (hpw kx zr zs zu) (m0 kx zr zs zu) d0 (by rw [hsz]; decide)
              clear hdep
              generalize hA : fillA a0 ls (LL kx zr zs zu) = af at *
              refine wpOp_intro rfl rfl fun K' hK => ?_
              go_simp
              refine hK _ _ ?_
              refine ⟨kx, zr, zs, zu, ?_, hB, ?_, ?_, ?_, ?_⟩
              · rw [← hA]; exact fill_put (by omega) hu (hpw kx zr zs zu) (m8 kx zr zs zu)
              · intro h; rw [getD_set_ne false (by decide)] at h; exact h5 h
              · intro h; rw [getD_set_ne false (by decide)] at h; exact h9 h
              · intro h; rw [getD_set_ne false (by decide)] at h; rw [getD_set_ne false (by decide)]; exact hal h
              · intro h; rw [getD_set_ne false (by decide)] at h; rw [getD_set_ne false (by decide), getD_set_ne false (by decide)]; exact hst2 h
            · skip
              have hu := un_of (show 9 < ls.size by omega) hun
              simp at hoi
              subst hoi
              have d8 : ls.getD 8 false = true := hdep ⟨8, .data⟩ (by simp) (by decide)
              have d5 : ls.getD 5 false = true := hdep ⟨5, .data⟩ (by simp) (by decide)
              have x43 := fill_evalT (a0 := a0) (listed := ls) (hpw kx zr zs zu) (m8 kx zr zs zu) d8 (by rw [hsz]; decide)
              have x40 := fill_evalT (a0 := a0) (listed := ls) (hpw kx zr zs zu) (m5 kx zr zs zu) d5 (by rw [hsz]; decide)
              clear hdep
              have hsame : ∀ zs2 zu2, fillA a0 ls (LL kx zr zs zu) = fillA a0 ls (LL kx zr zs2 zu2) := by intro zs2 zu2; apply fill_same; rw [hLL.out]; simp [SameL, hu]
              generalize hA : fillA a0 ls (LL kx zr zs zu) = af at *
              refine wpOp_intro rfl rfl fun K' hK => ?_
              go_simp
              first | go_at_call 68 | (trace_state; fail)
              refine (HV.out _ (h5 d5) _).mono ?_
              rintro e W2 ⟨zs2, zu2, rfl, hzs, hb1⟩
              refine hK _ _ ?_
              refine ⟨kx, zr, zs2, zu2, ?_, box_step hB hb1 (Nat.le_refl _), ?_, ?_, ?_, ?_⟩
              · first | (rw [hsame zs2 zu2]; exact fill_put (by omega) hu (hpw kx zr zs2 zu2) (m9 kx zr zs2 zu2)) | exact fill_put (by omega) hu (hpw kx zr zs2 zu2) (m9 kx zr zs2 zu2)
              · intro h; rw [getD_set_ne false (by decide)] at h; exact h5 h
              · intro h; exact hzs
              · intro h; rw [getD_set_ne false (by decide)] at h; rw [getD_set_ne false (by decide)]; exact ⟨(hal h).1, by have hf : ls.getD 11 false = false := (by cases hc : ls.getD 11 false with | false => rfl | true => exact absurd (hst2 hc).2 (by rw [hu]; simp)); rw [hf]; have := (hal h).2; rw [hf] at this; exact this.old hb1⟩
              · intro h; rw [getD_set_ne false (by decide)] at h; exact absurd (hst2 h).2 (by rw [hu]; simp)
            · skip
              have hu := un_of (show 10 < ls.size by omega) hun
              simp at hoi
              subst hoi
              clear hdep
              have hsame : fillA a0 ls (LL kx zr zs zu) = fillA a0 ls (LL W.heap.size zr zs zu) := by apply fill_same; rw [hLL.out]; simp [SameL, hu]
              have hf : ls.getD 11 false = false := by cases hc : ls.getD 11 false with | false => rfl | true => exact absurd (hst2 hc).1 (by rw [hu]; simp)
              generalize hA : fillA a0 ls (LL kx zr zs zu) = af at *
              refine wpOp_intro rfl rfl fun K' hK => ?_
              go_simp
              refine hK _ _ ?_
              refine ⟨W.heap.size, zr, zs, zu, ?_, hB.alloc hB.size _, ?_, ?_, ?_, ?_⟩
              · first | exact fill_put (by omega) hu (hpw W.heap.size zr zs zu) (m10 W.heap.size zr zs zu) | (rw [hsame]; exact fill_put (by omega) hu (hpw W.heap.size zr zs zu) (m10 W.heap.size zr zs zu))
              · intro h; rw [getD_set_ne false (by decide)] at h; exact h5 h
              · intro h; rw [getD_set_ne false (by decide)] at h; exact h9 h
              · intro h; rw [getD_set_ne false (show (10 : Nat) ≠ 11 by decide), hf]; exact ⟨hB.size, Blk.new rfl⟩
              · intro h; rw [getD_set_ne false (by decide), hf] at h; cases h
            · skip
              have hu := un_of (show 11 < ls.size by omega) hun
              simp at hoi
              subst hoi
              have d10 : ls.getD 10 false = true := hdep ⟨10, .data⟩ (by simp) (by decide)
              have d9 : ls.getD 9 false = true := hdep ⟨9, .data⟩ (by simp) (by decide)
              have x10 := fill_evalT (a0 := a0) (listed := ls) (hpw kx zr zs zu) (m10 kx zr zs zu) d10 (by rw [hsz]; decide)
              have x44 := fill_evalT (a0 := a0) (listed := ls) (hpw kx zr zs zu) (m9 kx zr zs zu) d9 (by rw [hsz]; decide)
              clear hdep
              have hf : ls.getD 11 false = false := hu
              have hbk := (hal d10).2
              rw [hf] at hbk
              refine wpOp_intro rfl rfl fun K' hK => ?_
              refine wp_store_row 58 (.tmp 10) (.tmp 44) rfl kx #[.int .i64 (codeOf SGv), .float .f64 zs, .float .f64 zu] (by simpa [Act.eval] using x10) (by simpa [Act.eval] using x44) 58 #[.int .i64 0, .float .f64 0, .float .f64 0] hbk (by kernel_rfl) rfl (by simp [Value.oneCell']) ?_
              refine hK _ _ ?_
              refine ⟨kx, zr, zs, zu, ?_, below_setRow hB (hal d10).1 _, ?_, ?_, ?_, ?_⟩
              · show fillA a0 ls (LL kx zr zs zu) = fillA a0 (ls.setIfInBounds 11 true) (LL kx zr zs zu)
                rw [hLL.out]; simp only [fillA]; simp only [getD_set_ne false (show (11 : Nat) ≠ 0 by decide), getD_set_ne false (show (11 : Nat) ≠ 1 by decide), getD_set_ne false (show (11 : Nat) ≠ 2 by decide), getD_set_ne false (show (11 : Nat) ≠ 3 by decide), getD_set_ne false (show (11 : Nat) ≠ 4 by decide), getD_set_ne false (show (11 : Nat) ≠ 5 by decide), getD_set_ne false (show (11 : Nat) ≠ 6 by decide), getD_set_ne false (show (11 : Nat) ≠ 7 by decide), getD_set_ne false (show (11 : Nat) ≠ 8 by decide), getD_set_ne false (show (11 : Nat) ≠ 9 by decide), getD_set_ne false (show (11 : Nat) ≠ 10 by decide)]
              · intro h; rw [getD_set_ne false (by decide)] at h; exact h5 h
              · intro h; rw [getD_set_ne false (by decide)] at h; exact h9 h
              · intro h; rw [set_self (by omega)]; exact ⟨(hal d10).1, hbk.setRow⟩
              · intro h; rw [getD_set_ne false (by decide), getD_set_ne false (by decide)]; exact ⟨d10, d9⟩
          · intro ls a W hI hall
            obtain ⟨kx, zr, zs, zu, rfl, hB, h5, h9, hal, hst2⟩ := hI
            have l0 : ls.getD 0 false = true := hall 0 (by decide)
            have l1 : ls.getD 1 false = true := hall 1 (by decide)
            have l2 : ls.getD 2 false = true := hall 2 (by decide)
            have l3 : ls.getD 3 false = true := hall 3 (by decide)
            have l4 : ls.getD 4 false = true := hall 4 (by decide)
            have l5 : ls.getD 5 false = true := hall 5 (by decide)
            have l6 : ls.getD 6 false = true := hall 6 (by decide)
            have l7 : ls.getD 7 false = true := hall 7 (by decide)
            have l8 : ls.getD 8 false = true := hall 8 (by decide)
            have l9 : ls.getD 9 false = true := hall 9 (by decide)
            have l10 : ls.getD 10 false = true := hall 10 (by decide)
            have l11 : ls.getD 11 false = true := hall 11 (by decide)
            clear hall
            have HE : Hid ((v7.heap.size ≤ kx ∧ Blk W kx #[.int .i64 (codeOf SGv), .float .f64 zs, .float .f64 zu] 58) ∧ Below v7.heap.size v7 W ∧ (Fc zs (sgS SGv) ∧ Fc zu (sgU SGv))) := ⟨⟨(hal l10).1, by have h := (hal l10).2; rw [l11] at h; exact h⟩, hB, h9 l9⟩
            clear hB hal hst2 h5 h9
            rw [hLL.out]
            simp only [fillA, l0, l1, l2, l3, l4, l5, l6, l7, l8, l9, l10, if_true]
            clear l0 l1 l2 l3 l4 l5 l6 l7 l8 l9 l10 l11
            rw [ha0.out]
            simp only [Act.put, List.setIfInBounds_toArray, List.set_cons_succ, List.set_cons_zero]
            clear HV e6 e9 hsz hpw m0 m1 m2 m3 m4 m5 m6 m7 m8 m9 m10 n6 n9 hLL ha0
            go_wp2_with fail
            go_meet
            case rel =>
              exact ⟨kx, zs, zu, rfl, HE.out.1, HE.out.2.1, HE.out.2.2⟩
        case rest =>
          obtain ⟨k9, zsk9, zuk9, rfl, hKK, hB, P_s⟩ := hcut
          replace P_s : Hid _ := P_s
          obtain ⟨v8, hv⟩ : ∃ v, v = wc := ⟨_, rfl⟩
          subst hv
          replace HO : Hid (Below w.heap.size w v8) := HO.out.trans (hB.mono HO.out.size)
          have low_s : Hid (w.heap.size ≤ k9) := by show w.heap.size ≤ k9; exact Nat.le_trans lowv.out hKK.1
          have ne_f_s : Hid (w.heap.size ≠ k9) := Nat.ne_of_lt (Nat.lt_of_lt_of_le B_f.out.lt hKK.1)
          have ne_a_s : Hid (w.heap.size + 1 ≠ k9) := Nat.ne_of_lt (Nat.lt_of_lt_of_le B_a.out.lt hKK.1)
          have ne_res_s : Hid (w.heap.size + 1 + 1 ≠ k9) := Nat.ne_of_lt (Nat.lt_of_lt_of_le B_res.out.lt hKK.1)
          have ne_no_s : Hid (v1.heap.size ≠ k9) := Nat.ne_of_lt (Nat.lt_of_lt_of_le B_no.out.lt hKK.1)
          have ne_z_s : Hid (v6.heap.size ≠ k9) := Nat.ne_of_lt (Nat.lt_of_lt_of_le B_z.out.lt hKK.1)
          replace B_f : Hid (Blk v8 (w.heap.size) #[.float .f64 (g 0), .float .f64 (g 1), .float .f64 (g 2), .float .f64 (g 3), .float .f64 (g 4)] 41) := Blk.old B_f.out hB
          replace B_a : Hid (Blk v8 (w.heap.size + 1) #[.float .f64 (a 0), .float .f64 (a 1), .float .f64 (a 2), .float .f64 (a 3), .float .f64 (a 4), .float .f64 (a 5)] 33) := Blk.old B_a.out hB
          replace B_res : Hid (Blk v8 (w.heap.size + 1 + 1) #[.int .i64 0, .int .i64 0, .float .f64 0, .float .f64 0, .float .f64 0, .float .f64 0, .float .f64 0, .float .f64 0, .float .f64 0, .float .f64 0, .float .f64 0, .float .f64 0, .float .f64 0, .float .f64 0, .float .f64 0] 43) := Blk.old B_res.out hB
          replace B_no : Hid (Blk v8 (v1.heap.size) #[.int .i64 4, .int .i64 0, .float .f64 0, .float .f64 0, .float .f64 0, .float .f64 0, .float .f64 0, .float .f64 0, .float .f64 0, .float .f64 0, .float .f64 0, .float .f64 0, .float .f64 0, .float .f64 0, .float .f64 0] 43) := Blk.old B_no.out hB
          replace B_z : Hid (Blk v8 (v6.heap.size) #[.float .f64 (z 0), .float .f64 (z 1), .float .f64 (z 2), .float .f64 (z 3), .float .f64 (z 4), .float .f64 (z 5)] 33) := Blk.old B_z.out hB
          have B_s : Hid (Blk v8 k9 #[.int .i64 (codeOf SGv), .float .f64 zsk9, .float .f64 zuk9] 58) := hKK.2
          clear hB hKK
          clear lowv
          clear HV
          cases SGv
          case none =>
            have hs : (sagC (G 0) (G 1) (sqr (posC A L 0) (posC A L 1))) = none := hSG.out.symm
            replace B_s : Hid (Blk v8 k9 #[.int .i64 4, .float .f64 zsk9, .float .f64 zuk9] 58) := B_s.out
            have hD : Hid (meetC G A = none) := HL2.out.trans (hit_none hs)
            clear hs
            have s_0 := B_s.out.cell (j := 0) rfl
            have s_1 := B_s.out.cell (j := 1) rfl
            have s_2 := B_s.out.cell (j := 2) rfl
            have s_f := B_s.out.frozen
            have s_z := B_s.out.lt
            go_upto_region 12 with fail
            clear s_0 s_1 s_2 s_f s_z
            have no_0 := B_no.out.cell (j := 0) rfl
            have no_1 := B_no.out.cell (j := 1) rfl
            have no_2 := B_no.out.cell (j := 2) rfl
            have no_3 := B_no.out.cell (j := 3) rfl
            have no_4 := B_no.out.cell (j := 4) rfl
            have no_5 := B_no.out.cell (j := 5) rfl
            have no_6 := B_no.out.cell (j := 6) rfl
            have no_7 := B_no.out.cell (j := 7) rfl
            have no_8 := B_no.out.cell (j := 8) rfl
            have no_9 := B_no.out.cell (j := 9) rfl
            have no_10 := B_no.out.cell (j := 10) rfl
            have no_11 := B_no.out.cell (j := 11) rfl
            have no_12 := B_no.out.cell (j := 12) rfl
            have no_13 := B_no.out.cell (j := 13) rfl
            have no_14 := B_no.out.cell (j := 14) rfl
            have no_f := B_no.out.frozen
            have no_z := B_no.out.lt
            skip
            repeat (first | (refine wpList_store_row rfl 43 _ _ rfl (w.heap.size + 1 + 1) #[.int .i64 4, .int .i64 0, .float .f64 0, .float .f64 0, .float .f64 0, .float .f64 0, .float .f64 0, .float .f64 0, .float .f64 0, .float .f64 0, .float .f64 0, .float .f64 0, .float .f64 0, .float .f64 0, .float .f64 0] rfl rfl 43 #[.int .i64 0, .int .i64 0, .float .f64 0, .float .f64 0, .float .f64 0, .float .f64 0, .float .f64 0, .float .f64 0, .float .f64 0, .float .f64 0, .float .f64 0, .float .f64 0, .float .f64 0, .float .f64 0, .float .f64 0] B_res.out (by kernel_rfl) rfl (by simp [Value.oneCell']) ?_) | go_step)
            refine bodyPost_ret (res_blk Try.results17 rfl (run_loadVar_row (P := Try.prog) _ _ 43 43 #[.int .i64 4, .int .i64 0, .float .f64 0, .float .f64 0, .float .f64 0, .float .f64 0, .float .f64 0, .float .f64 0, .float .f64 0, .float .f64 0, .float .f64 0, .float .f64 0, .float .f64 0, .float .f64 0, .float .f64 0] (0, 0) _ (Blk.setRow B_res.out) Try.underlying43 rfl (by kernel_rfl))) rfl ⟨0, (fun _ => 0), (fun _ => 0), by rw [hD.out]; rfl, by rw [hD.out]; exact hc_none, ?_⟩
            exact below_setRow HO.out low_res.out _
          case some sgv =>
            have hs : (sagC (G 0) (G 1) (sqr (posC A L 0) (posC A L 1))) = some sgv := hSG.out.symm
            replace B_s : Hid (Blk v8 k9 #[.int .i64 0, .float .f64 zsk9, .float .f64 zuk9] 58) := B_s.out
            replace P_s : Hid (Fc zsk9 sgv.1 ∧ Fc zuk9 sgv.2) := P_s.out
            have s_0 := B_s.out.cell (j := 0) rfl
            have s_1 := B_s.out.cell (j := 1) rfl
            have s_2 := B_s.out.cell (j := 2) rfl
            have s_f := B_s.out.frozen
            have s_z := B_s.out.lt
            go_upto_region 13 with fail
            clear s_0 s_1 s_2 s_f s_z
            have HG : Hid (sgv.2 = oneO) := by
              show sgv.2 = oneO
              have h := HPl.out
              rw [hs] at h
              unfold planeC at h
              split at h
              · rw [Option.some.inj h]
              · cases h
            have z_0 := B_z.out.cell (j := 0) rfl
            have z_1 := B_z.out.cell (j := 1) rfl
            have z_2 := B_z.out.cell (j := 2) rfl
            have z_3 := B_z.out.cell (j := 3) rfl
            have z_4 := B_z.out.cell (j := 4) rfl
            have z_5 := B_z.out.cell (j := 5) rfl
            have z_f := B_z.out.frozen
            have z_z := B_z.out.lt
            have s_0 := B_s.out.cell (j := 0) rfl
            have s_1 := B_s.out.cell (j := 1) rfl
            have s_2 := B_s.out.cell (j := 2) rfl
            have s_f := B_s.out.frozen
            have s_z := B_s.out.lt
            go_wp2_with fail
            refine (iSlopes_true H.out.1 hz.out P_s.out.2 _).mono ?_
            rintro e v10 ⟨p, q, rfl, hpq, hb⟩
            clear z_0 z_1 z_2 z_3 z_4 z_5 z_f z_z s_0 s_1 s_2 s_f s_z
            replace hpq : Hid _ := hpq
            replace B_f : Hid (Blk v10 (w.heap.size) #[.float .f64 (g 0), .float .f64 (g 1), .float .f64 (g 2), .float .f64 (g 3), .float .f64 (g 4)] 41) := by show Blk v10 (w.heap.size) _ _; exact Blk.old B_f.out hb
            replace B_a : Hid (Blk v10 (w.heap.size + 1) #[.float .f64 (a 0), .float .f64 (a 1), .float .f64 (a 2), .float .f64 (a 3), .float .f64 (a 4), .float .f64 (a 5)] 33) := by show Blk v10 (w.heap.size + 1) _ _; exact Blk.old B_a.out hb
            replace B_res : Hid (Blk v10 (w.heap.size + 1 + 1) #[.int .i64 0, .int .i64 0, .float .f64 0, .float .f64 0, .float .f64 0, .float .f64 0, .float .f64 0, .float .f64 0, .float .f64 0, .float .f64 0, .float .f64 0, .float .f64 0, .float .f64 0, .float .f64 0, .float .f64 0] 43) := by show Blk v10 (w.heap.size + 1 + 1) _ _; exact Blk.old B_res.out hb
            replace B_no : Hid (Blk v10 (v1.heap.size) #[.int .i64 4, .int .i64 0, .float .f64 0, .float .f64 0, .float .f64 0, .float .f64 0, .float .f64 0, .float .f64 0, .float .f64 0, .float .f64 0, .float .f64 0, .float .f64 0, .float .f64 0, .float .f64 0, .float .f64 0] 43) := by show Blk v10 (v1.heap.size) _ _; exact Blk.old B_no.out hb
            replace B_z : Hid (Blk v10 (v6.heap.size) #[.float .f64 (z 0), .float .f64 (z 1), .float .f64 (z 2), .float .f64 (z 3), .float .f64 (z 4), .float .f64 (z 5)] 33) := by show Blk v10 (v6.heap.size) _ _; exact Blk.old B_z.out hb
            replace B_s : Hid (Blk v10 (k9) #[.int .i64 0, .float .f64 zsk9, .float .f64 zuk9] 58) := by show Blk v10 (k9) _ _; exact Blk.old B_s.out hb
            replace HO : Hid (Below w.heap.size w v10) := box_step HO.out hb (Nat.le_refl _)
            clear hb
            have hFp : Hid (Fc p (slopeC (G 0) (posC A L 0) sgv.2)) := (by have h := hpq.out.1; rw [HG.out, plane_slope (H.out.1.h 0 (by decide)).wc (hz.out.h 0 (by decide)).wc HP.out]; exact h)
            have hFq : Hid (Fc q (slopeC (G 0) (posC A L 1) sgv.2)) := (by have h := hpq.out.2; rw [HG.out, plane_slope (H.out.1.h 0 (by decide)).wc (hz.out.h 1 (by decide)).wc HP.out]; exact h)
            go_upto_region 14 with fail
            obtain ⟨s11, q11, h11, F11⟩ := flop .sub (by simp) (P_s.out.1) ((hz.out.h 2 (by decide))) v10
            replace F11 : Hid _ := F11
            have s_0 := B_s.out.cell (j := 0) rfl
            have s_1 := B_s.out.cell (j := 1) rfl
            have s_2 := B_s.out.cell (j := 2) rfl
            have s_f := B_s.out.frozen
            have s_z := B_s.out.lt
            have z_0 := B_z.out.cell (j := 0) rfl
            have z_1 := B_z.out.cell (j := 1) rfl
            have z_2 := B_z.out.cell (j := 2) rfl
            have z_3 := B_z.out.cell (j := 3) rfl
            have z_4 := B_z.out.cell (j := 4) rfl
            have z_5 := B_z.out.cell (j := 5) rfl
            have z_f := B_z.out.frozen
            have z_z := B_z.out.lt
            go_upto_region 15 with fail
            clear s_0 s_1 s_2 s_f s_z z_0 z_1 z_2 z_3 z_4 z_5 z_f z_z
            obtain ⟨v12, hv⟩ : ∃ Xw, Xw = (v10.drewN (q11)) := ⟨_, rfl⟩
            rw [← hv]
            clear h11
            replace B_f : Hid (Blk v12 (w.heap.size) #[.float .f64 (g 0), .float .f64 (g 1), .float .f64 (g 2), .float .f64 (g 3), .float .f64 (g 4)] 41) := by show Blk v12 (w.heap.size) _ _; rw [hv]; exact (Blk.drewN B_f.out _)
            replace B_a : Hid (Blk v12 (w.heap.size + 1) #[.float .f64 (a 0), .float .f64 (a 1), .float .f64 (a 2), .float .f64 (a 3), .float .f64 (a 4), .float .f64 (a 5)] 33) := by show Blk v12 (w.heap.size + 1) _ _; rw [hv]; exact (Blk.drewN B_a.out _)
            replace B_res : Hid (Blk v12 (w.heap.size + 1 + 1) #[.int .i64 0, .int .i64 0, .float .f64 0, .float .f64 0, .float .f64 0, .float .f64 0, .float .f64 0, .float .f64 0, .float .f64 0, .float .f64 0, .float .f64 0, .float .f64 0, .float .f64 0, .float .f64 0, .float .f64 0] 43) := by show Blk v12 (w.heap.size + 1 + 1) _ _; rw [hv]; exact (Blk.drewN B_res.out _)
            replace B_no : Hid (Blk v12 (v1.heap.size) #[.int .i64 4, .int .i64 0, .float .f64 0, .float .f64 0, .float .f64 0, .float .f64 0, .float .f64 0, .float .f64 0, .float .f64 0, .float .f64 0, .float .f64 0, .float .f64 0, .float .f64 0, .float .f64 0, .float .f64 0] 43) := by show Blk v12 (v1.heap.size) _ _; rw [hv]; exact (Blk.drewN B_no.out _)
            replace B_z : Hid (Blk v12 (v6.heap.size) #[.float .f64 (z 0), .float .f64 (z 1), .float .f64 (z 2), .float .f64 (z 3), .float .f64 (z 4), .float .f64 (z 5)] 33) := by show Blk v12 (v6.heap.size) _ _; rw [hv]; exact (Blk.drewN B_z.out _)
            replace B_s : Hid (Blk v12 (k9) #[.int .i64 0, .float .f64 zsk9, .float .f64 zuk9] 58) := by show Blk v12 (k9) _ _; rw [hv]; exact (Blk.drewN B_s.out _)
            replace HO : Hid (Below w.heap.size w v12) := by show Below w.heap.size w v12; rw [hv]; exact (below_drewN HO.out _)
            clear hv
            have hT : Hid (Tells 34 s11 (rg s11)) := mAbs_any (F11.out).lx
            have hAb := fc_rg (F11.out)
            have hgt : _ = gtO (absC (opC .sub sgv.1 (posC A L 2))) nearO := gt_fc hAb fc_near
            clear hAb
            generalize rg s11 = ab at hT hgt
            go_wp2_with fail
            refine (hT.out _).mono ?_
            rintro e wx ⟨rfl, rfl⟩
            clear hT
            cases hN : gtO (absC (opC .sub sgv.1 (posC A L 2))) nearO
            case false =>
              rw [hN] at hgt
              have hD : Hid (meetC G A = some ⟨k, L, posC A L, nrmC (slopeC (G 0) (posC A L 0) sgv.2) (slopeC (G 0) (posC A L 1) sgv.2)⟩) := HL2.out.trans (hit_end hs hN)
              go_upto_region 16 with fail
              clear hgt
              have E0 : Ex v12 (w.heap.size + 1 + 1) 15 43 v12 := Ex.refl B_res.out rfl
              have k0 : ∀ W, Ex v12 (w.heap.size + 1 + 1) 15 43 W → W.cell? ⟨v6.heap.size, 0, none⟩ = some (.float .f64 (z 0)) := fun _ h => h.old B_z.out (Ne.symm ne_res_z.out) rfl
              have k1 : ∀ W, Ex v12 (w.heap.size + 1 + 1) 15 43 W → W.cell? ⟨v6.heap.size, 1, none⟩ = some (.float .f64 (z 1)) := fun _ h => h.old B_z.out (Ne.symm ne_res_z.out) rfl
              have k2 : ∀ W, Ex v12 (w.heap.size + 1 + 1) 15 43 W → W.cell? ⟨v6.heap.size, 2, none⟩ = some (.float .f64 (z 2)) := fun _ h => h.old B_z.out (Ne.symm ne_res_z.out) rfl
              have k3 : ∀ W, Ex v12 (w.heap.size + 1 + 1) 15 43 W → W.cell? ⟨v6.heap.size, 3, none⟩ = some (.float .f64 (z 3)) := fun _ h => h.old B_z.out (Ne.symm ne_res_z.out) rfl
              have k4 : ∀ W, Ex v12 (w.heap.size + 1 + 1) 15 43 W → W.cell? ⟨v6.heap.size, 4, none⟩ = some (.float .f64 (z 4)) := fun _ h => h.old B_z.out (Ne.symm ne_res_z.out) rfl
              have k5 : ∀ W, Ex v12 (w.heap.size + 1 + 1) 15 43 W → W.cell? ⟨v6.heap.size, 5, none⟩ = some (.float .f64 (z 5)) := fun _ h => h.old B_z.out (Ne.symm ne_res_z.out) rfl
              have g0 : ∀ W, Ex v12 (w.heap.size + 1 + 1) 15 43 W → W.cell? ⟨w.heap.size + 1 + 1, 0, none⟩ = some (got W (w.heap.size + 1 + 1) 0) := fun _ h => h.cell (by omega)
              have g1 : ∀ W, Ex v12 (w.heap.size + 1 + 1) 15 43 W → W.cell? ⟨w.heap.size + 1 + 1, 1, none⟩ = some (got W (w.heap.size + 1 + 1) 1) := fun _ h => h.cell (by omega)
              have g2 : ∀ W, Ex v12 (w.heap.size + 1 + 1) 15 43 W → W.cell? ⟨w.heap.size + 1 + 1, 2, none⟩ = some (got W (w.heap.size + 1 + 1) 2) := fun _ h => h.cell (by omega)
              have g3 : ∀ W, Ex v12 (w.heap.size + 1 + 1) 15 43 W → W.cell? ⟨w.heap.size + 1 + 1, 3, none⟩ = some (got W (w.heap.size + 1 + 1) 3) := fun _ h => h.cell (by omega)
              have g4 : ∀ W, Ex v12 (w.heap.size + 1 + 1) 15 43 W → W.cell? ⟨w.heap.size + 1 + 1, 4, none⟩ = some (got W (w.heap.size + 1 + 1) 4) := fun _ h => h.cell (by omega)
              have g5 : ∀ W, Ex v12 (w.heap.size + 1 + 1) 15 43 W → W.cell? ⟨w.heap.size + 1 + 1, 5, none⟩ = some (got W (w.heap.size + 1 + 1) 5) := fun _ h => h.cell (by omega)
              have g6 : ∀ W, Ex v12 (w.heap.size + 1 + 1) 15 43 W → W.cell? ⟨w.heap.size + 1 + 1, 6, none⟩ = some (got W (w.heap.size + 1 + 1) 6) := fun _ h => h.cell (by omega)
              have g7 : ∀ W, Ex v12 (w.heap.size + 1 + 1) 15 43 W → W.cell? ⟨w.heap.size + 1 + 1, 7, none⟩ = some (got W (w.heap.size + 1 + 1) 7) := fun _ h => h.cell (by omega)
              have g8 : ∀ W, Ex v12 (w.heap.size + 1 + 1) 15 43 W → W.cell? ⟨w.heap.size + 1 + 1, 8, none⟩ = some (got W (w.heap.size + 1 + 1) 8) := fun _ h => h.cell (by omega)
              have g9 : ∀ W, Ex v12 (w.heap.size + 1 + 1) 15 43 W → W.cell? ⟨w.heap.size + 1 + 1, 9, none⟩ = some (got W (w.heap.size + 1 + 1) 9) := fun _ h => h.cell (by omega)
              have g10 : ∀ W, Ex v12 (w.heap.size + 1 + 1) 15 43 W → W.cell? ⟨w.heap.size + 1 + 1, 10, none⟩ = some (got W (w.heap.size + 1 + 1) 10) := fun _ h => h.cell (by omega)
              have g11 : ∀ W, Ex v12 (w.heap.size + 1 + 1) 15 43 W → W.cell? ⟨w.heap.size + 1 + 1, 11, none⟩ = some (got W (w.heap.size + 1 + 1) 11) := fun _ h => h.cell (by omega)
              have g12 : ∀ W, Ex v12 (w.heap.size + 1 + 1) 15 43 W → W.cell? ⟨w.heap.size + 1 + 1, 12, none⟩ = some (got W (w.heap.size + 1 + 1) 12) := fun _ h => h.cell (by omega)
              have g13 : ∀ W, Ex v12 (w.heap.size + 1 + 1) 15 43 W → W.cell? ⟨w.heap.size + 1 + 1, 13, none⟩ = some (got W (w.heap.size + 1 + 1) 13) := fun _ h => h.cell (by omega)
              have g14 : ∀ W, Ex v12 (w.heap.size + 1 + 1) 15 43 W → W.cell? ⟨w.heap.size + 1 + 1, 14, none⟩ = some (got W (w.heap.size + 1 + 1) 14) := fun _ h => h.cell (by omega)
              have gf : ∀ W j, Ex v12 (w.heap.size + 1 + 1) 15 43 W → W.frozen? ⟨w.heap.size + 1 + 1, j, none⟩ = false := fun _ j h => h.frozen j
              go_region_held (fun W => Ex v12 (w.heap.size + 1 + 1) 15 43 W) (first | with_reducible assumption | with_reducible exact Ex.drew ‹_› | with_reducible exact Ex.set (Ex.set (Ex.set (Ex.set (Ex.set (Ex.set (Ex.set (Ex.set (Ex.set (Ex.set (Ex.set (Ex.set (Ex.set (Ex.set (Ex.set ‹_› _ _) _ _) _ _) _ _) _ _) _ _) _ _) _ _) _ _) _ _) _ _) _ _) _ _) _ _) _ _)
                (first | (go_at_call 35; refine (iNormal_any hFp.out hFq.out _).mono ?_; rintro e wz ⟨nn, rfl, hnn, hb1⟩; replace hnn : Hid _ := hnn; have hR1 := Ex.call ‹_› hb1))
              all_goals
                have c0 := g0 _ hR1
                have c1 := g1 _ hR1
                have c2 := g2 _ hR1
                have c3 := g3 _ hR1
                have c4 := g4 _ hR1
                have c5 := g5 _ hR1
                have c6 := g6 _ hR1
                have c7 := g7 _ hR1
                have c8 := g8 _ hR1
                have c9 := g9 _ hR1
                have c10 := g10 _ hR1
                have c11 := g11 _ hR1
                have c12 := g12 _ hR1
                have c13 := g13 _ hR1
                have c14 := g14 _ hR1
                clear k0 k1 k2 k3 k4 k5 g0 g1 g2 g3 g4 g5 g6 g7 g8 g9 g10 g11 g12 g13 g14 gf
                go_wp2
                refine bodyPost_ret (v := Mv 0 k l z nn) (by simp [results, Try.results17, go_sem, c0, c1, c2, c3, c4, c5, c6, c7, c8, c9, c10, c11, c12, c13, c14] <;> (repeat' (first | rfl | apply And.intro))) rfl ⟨_, _, _, by rw [hD.out]; rfl, by rw [hD.out]; exact ⟨HL.out.1, hz.out, hnn.out⟩, ?_⟩
                exact Ex.out (Ex.set (Ex.set (Ex.set (Ex.set (Ex.set (Ex.set (Ex.set (Ex.set (Ex.set (Ex.set (Ex.set (Ex.set (Ex.set (Ex.set (Ex.set hR1 _ _) _ _) _ _) _ _) _ _) _ _) _ _) _ _) _ _) _ _) _ _) _ _) _ _) _ _) _ _) HO.out low_res.out
            case true =>
              rw [hN] at hgt
              go_upto_region 17 with fail
              clear hgt
              obtain ⟨s13, q13, h13, F13⟩ := flop .mul (by simp) ((H.out.2.h 3 (by decide))) (hFp.out) v12
              replace F13 : Hid _ := F13
              obtain ⟨s14, q14, h14, F14⟩ := flop .mul (by simp) ((H.out.2.h 4 (by decide))) (hFq.out) (v12.drewN (q13))
              replace F14 : Hid _ := F14
              obtain ⟨s15, q15, h15, F15⟩ := flop .add (by simp) (F13.out) (F14.out) (v12.drewN (q13 + q14))
              replace F15 : Hid _ := F15
              obtain ⟨s16, q16, h16, F16⟩ := flop .sub (by simp) ((H.out.2.h 5 (by decide))) (F15.out) (v12.drewN (q13 + q14 + q15))
              replace F16 : Hid _ := F16
              have a_0 := B_a.out.cell (j := 0) rfl
              have a_1 := B_a.out.cell (j := 1) rfl
              have a_2 := B_a.out.cell (j := 2) rfl
              have a_3 := B_a.out.cell (j := 3) rfl
              have a_4 := B_a.out.cell (j := 4) rfl
              have a_5 := B_a.out.cell (j := 5) rfl
              have a_f := B_a.out.frozen
              have a_z := B_a.out.lt
              go_upto_region 18 with fail
              clear a_0 a_1 a_2 a_3 a_4 a_5 a_f a_z
              obtain ⟨v17, hv⟩ : ∃ Xw, Xw = (v12.drewN (q13 + q14 + q15 + q16)) := ⟨_, rfl⟩
              rw [← hv]
              clear h13 h14 h15 h16
              replace B_f : Hid (Blk v17 (w.heap.size) #[.float .f64 (g 0), .float .f64 (g 1), .float .f64 (g 2), .float .f64 (g 3), .float .f64 (g 4)] 41) := by show Blk v17 (w.heap.size) _ _; rw [hv]; exact (Blk.drewN B_f.out _)
              replace B_a : Hid (Blk v17 (w.heap.size + 1) #[.float .f64 (a 0), .float .f64 (a 1), .float .f64 (a 2), .float .f64 (a 3), .float .f64 (a 4), .float .f64 (a 5)] 33) := by show Blk v17 (w.heap.size + 1) _ _; rw [hv]; exact (Blk.drewN B_a.out _)
              replace B_res : Hid (Blk v17 (w.heap.size + 1 + 1) #[.int .i64 0, .int .i64 0, .float .f64 0, .float .f64 0, .float .f64 0, .float .f64 0, .float .f64 0, .float .f64 0, .float .f64 0, .float .f64 0, .float .f64 0, .float .f64 0, .float .f64 0, .float .f64 0, .float .f64 0] 43) := by show Blk v17 (w.heap.size + 1 + 1) _ _; rw [hv]; exact (Blk.drewN B_res.out _)
              replace B_no : Hid (Blk v17 (v1.heap.size) #[.int .i64 4, .int .i64 0, .float .f64 0, .float .f64 0, .float .f64 0, .float .f64 0, .float .f64 0, .float .f64 0, .float .f64 0, .float .f64 0, .float .f64 0, .float .f64 0, .float .f64 0, .float .f64 0, .float .f64 0] 43) := by show Blk v17 (v1.heap.size) _ _; rw [hv]; exact (Blk.drewN B_no.out _)
              replace B_z : Hid (Blk v17 (v6.heap.size) #[.float .f64 (z 0), .float .f64 (z 1), .float .f64 (z 2), .float .f64 (z 3), .float .f64 (z 4), .float .f64 (z 5)] 33) := by show Blk v17 (v6.heap.size) _ _; rw [hv]; exact (Blk.drewN B_z.out _)
              replace B_s : Hid (Blk v17 (k9) #[.int .i64 0, .float .f64 zsk9, .float .f64 zuk9] 58) := by show Blk v17 (k9) _ _; rw [hv]; exact (Blk.drewN B_s.out _)
              replace HO : Hid (Below w.heap.size w v17) := by show Below w.heap.size w v17; rw [hv]; exact (below_drewN HO.out _)
              clear hv
              have hg2 : _ = gtO (fallC A (slopeC (G 0) (posC A L 0) sgv.2) (slopeC (G 0) (posC A L 1) sgv.2)) zO := gt_fc (F16.out) fc_zero
              cases hM : gtO (fallC A (slopeC (G 0) (posC A L 0) sgv.2) (slopeC (G 0) (posC A L 1) sgv.2)) zO
              case false =>
                rw [hM] at hg2
                have hD : Hid (meetC G A = none) := HL2.out.trans (hit_lost hs hN hM)
                go_upto_region 19 with fail
                clear hg2
                have no_0 := B_no.out.cell (j := 0) rfl
                have no_1 := B_no.out.cell (j := 1) rfl
                have no_2 := B_no.out.cell (j := 2) rfl
                have no_3 := B_no.out.cell (j := 3) rfl
                have no_4 := B_no.out.cell (j := 4) rfl
                have no_5 := B_no.out.cell (j := 5) rfl
                have no_6 := B_no.out.cell (j := 6) rfl
                have no_7 := B_no.out.cell (j := 7) rfl
                have no_8 := B_no.out.cell (j := 8) rfl
                have no_9 := B_no.out.cell (j := 9) rfl
                have no_10 := B_no.out.cell (j := 10) rfl
                have no_11 := B_no.out.cell (j := 11) rfl
                have no_12 := B_no.out.cell (j := 12) rfl
                have no_13 := B_no.out.cell (j := 13) rfl
                have no_14 := B_no.out.cell (j := 14) rfl
                have no_f := B_no.out.frozen
                have no_z := B_no.out.lt
                skip
                repeat (first | (refine wpList_store_row rfl 43 _ _ rfl (w.heap.size + 1 + 1) #[.int .i64 4, .int .i64 0, .float .f64 0, .float .f64 0, .float .f64 0, .float .f64 0, .float .f64 0, .float .f64 0, .float .f64 0, .float .f64 0, .float .f64 0, .float .f64 0, .float .f64 0, .float .f64 0, .float .f64 0] rfl rfl 43 #[.int .i64 0, .int .i64 0, .float .f64 0, .float .f64 0, .float .f64 0, .float .f64 0, .float .f64 0, .float .f64 0, .float .f64 0, .float .f64 0, .float .f64 0, .float .f64 0, .float .f64 0, .float .f64 0, .float .f64 0] B_res.out (by kernel_rfl) rfl (by simp [Value.oneCell']) ?_) | go_step)
                refine bodyPost_ret (res_blk Try.results17 rfl (run_loadVar_row (P := Try.prog) _ _ 43 43 #[.int .i64 4, .int .i64 0, .float .f64 0, .float .f64 0, .float .f64 0, .float .f64 0, .float .f64 0, .float .f64 0, .float .f64 0, .float .f64 0, .float .f64 0, .float .f64 0, .float .f64 0, .float .f64 0, .float .f64 0] (0, 0) _ (Blk.setRow B_res.out) Try.underlying43 rfl (by kernel_rfl))) rfl ⟨0, (fun _ => 0), (fun _ => 0), by rw [hD.out]; rfl, by rw [hD.out]; exact hc_none, ?_⟩
                exact below_setRow HO.out low_res.out _
              case true =>
                rw [hM] at hg2
                have hD := HL2.out.trans (hit_on hs hN hM)
                replace hD : Hid _ := hD
                go_upto_region 20 with fail
                clear hg2
                obtain ⟨s18, q18, h18, F18⟩ := flop .quo (by simp) (F11.out) (F16.out) v17
                replace F18 : Hid _ := F18
                obtain ⟨s19, q19, h19, F19⟩ := flop .add (by simp) (HL.out.1) (F18.out) (v17.drewN (q18))
                replace F19 : Hid _ := F19
                go_upto_region 21 with fail
                obtain ⟨v20, hv⟩ : ∃ Xw, Xw = (v17.drewN (q18 + q19)) := ⟨_, rfl⟩
                rw [← hv]
                clear h18 h19
                replace B_f : Hid (Blk v20 (w.heap.size) #[.float .f64 (g 0), .float .f64 (g 1), .float .f64 (g 2), .float .f64 (g 3), .float .f64 (g 4)] 41) := by show Blk v20 (w.heap.size) _ _; rw [hv]; exact (Blk.drewN B_f.out _)
                replace B_a : Hid (Blk v20 (w.heap.size + 1) #[.float .f64 (a 0), .float .f64 (a 1), .float .f64 (a 2), .float .f64 (a 3), .float .f64 (a 4), .float .f64 (a 5)] 33) := by show Blk v20 (w.heap.size + 1) _ _; rw [hv]; exact (Blk.drewN B_a.out _)
                replace B_res : Hid (Blk v20 (w.heap.size + 1 + 1) #[.int .i64 0, .int .i64 0, .float .f64 0, .float .f64 0, .float .f64 0, .float .f64 0, .float .f64 0, .float .f64 0, .float .f64 0, .float .f64 0, .float .f64 0, .float .f64 0, .float .f64 0, .float .f64 0, .float .f64 0] 43) := by show Blk v20 (w.heap.size + 1 + 1) _ _; rw [hv]; exact (Blk.drewN B_res.out _)
                replace B_no : Hid (Blk v20 (v1.heap.size) #[.int .i64 4, .int .i64 0, .float .f64 0, .float .f64 0, .float .f64 0, .float .f64 0, .float .f64 0, .float .f64 0, .float .f64 0, .float .f64 0, .float .f64 0, .float .f64 0, .float .f64 0, .float .f64 0, .float .f64 0] 43) := by show Blk v20 (v1.heap.size) _ _; rw [hv]; exact (Blk.drewN B_no.out _)
                replace B_z : Hid (Blk v20 (v6.heap.size) #[.float .f64 (z 0), .float .f64 (z 1), .float .f64 (z 2), .float .f64 (z 3), .float .f64 (z 4), .float .f64 (z 5)] 33) := by show Blk v20 (v6.heap.size) _ _; rw [hv]; exact (Blk.drewN B_z.out _)
                replace B_s : Hid (Blk v20 (k9) #[.int .i64 0, .float .f64 zsk9, .float .f64 zuk9] 58) := by show Blk v20 (k9) _ _; rw [hv]; exact (Blk.drewN B_s.out _)
                replace HO : Hid (Below w.heap.size w v20) := by show Below w.heap.size w v20; rw [hv]; exact (below_drewN HO.out _)
                clear hv
                go_wp2
                go_roundw
                case rel => (repeat apply Exists.intro); exact ⟨⟨k + 1, _, _, by omega, rfl, by simp, ⟨F19.out, by rw [hD.out]; rfl⟩, B_f.out, B_a.out, B_res.out, B_no.out, HO.out⟩, rfl⟩
                case measure => simp [intOf]; omega
end Go.Proofs.Ytbcidfmfkmeinaa
