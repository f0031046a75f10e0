/- Where a ray meets a face: the specification's. -/
import Derived.Test.YtbcidfmfkmeinaaPt
import Derived.Test.YtbcidfmfkmeinaaRw
namespace Go.Proofs.Ytbcidfmfkmeinaa
open Go.RowKit Fl
set_option linter.unusedVariables false
set_option linter.unusedSimpArgs false
theorem sv_none {fn : FuncId} {args : Array Value} {w : World} (h : SV fn args w none) : Calls Try.prog fn args w fun e w' => ∃ s u, e = .returned (Hv 4 s u) ∧ (Fc s zO ∧ Fc u zO) ∧ Below w.heap.size w w' := h
theorem sv_some {fn : FuncId} {args : Array Value} {w : World} {g : Option Nat × Option Nat} (h : SV fn args w (some g)) : Calls Try.prog fn args w fun e w' => ∃ s u, e = .returned (Hv 0 s u) ∧ (Fc s g.1 ∧ Fc u g.2) ∧ Below w.heap.size w w' := h
set_option maxRecDepth 20000 in
set_option maxHeartbeats 12800000 in
theorem sMeet_any {g a : Nat → Nat} {G A : Nat → Option Nat} (hg : Gc g G) (ha : Rc a A) (w : World) : MV 14 #[Gv g, Rv a] w (meetC G A) := by
  unfold MV
  have H : Hid (Gc g G ∧ Rc a A) := ⟨hg, ha⟩
  clear hg ha
  have hst := st64
  have hneg := neg_run
  go_enter Try.func14, Try.ntmps14
  have HO : Hid (Below w.heap.size w w) := Below.refl _ _
  go_upto_region 1 with fail
  obtain ⟨v1, hv⟩ : ∃ X, X = (((w.alloc (.cells #[.float .f64 (g 0), .float .f64 (g 1), .float .f64 (g 2), .float .f64 (g 3), .float .f64 (g 4)] 41)).alloc (.cells #[.float .f64 (a 0), .float .f64 (a 1), .float .f64 (a 2), .float .f64 (a 3), .float .f64 (a 4), .float .f64 (a 5)] 33)).alloc (.cells #[.int .i64 0, .int .i64 0, .float .f64 0, .float .f64 0, .float .f64 0, .float .f64 0, .float .f64 0, .float .f64 0, .float .f64 0, .float .f64 0, .float .f64 0, .float .f64 0, .float .f64 0, .float .f64 0, .float .f64 0] 43)) := ⟨_, rfl⟩
  rw [← hv]
  have ne_f_a : Hid (w.heap.size ≠ w.heap.size + 1) := by show (w.heap.size : Nat) ≠ w.heap.size + 1; omega
  have ne_f_res : Hid (w.heap.size ≠ w.heap.size + 1 + 1) := by show (w.heap.size : Nat) ≠ w.heap.size + 1 + 1; omega
  have ne_a_res : Hid (w.heap.size + 1 ≠ w.heap.size + 1 + 1) := by show (w.heap.size + 1 : Nat) ≠ w.heap.size + 1 + 1; omega
  have B_f : Hid (Blk v1 (w.heap.size) #[.float .f64 (g 0), .float .f64 (g 1), .float .f64 (g 2), .float .f64 (g 3), .float .f64 (g 4)] 41) := by show Blk v1 (w.heap.size) _ _; rw [hv]; exact (Blk.alloc (Blk.alloc (Blk.new (by simp)) _) _)
  have low_f : Hid (w.heap.size ≤ w.heap.size) := by show w.heap.size ≤ w.heap.size; have := HO.out.size; omega
  have B_a : Hid (Blk v1 (w.heap.size + 1) #[.float .f64 (a 0), .float .f64 (a 1), .float .f64 (a 2), .float .f64 (a 3), .float .f64 (a 4), .float .f64 (a 5)] 33) := by show Blk v1 (w.heap.size + 1) _ _; rw [hv]; exact (Blk.alloc (Blk.new (by simp)) _)
  have low_a : Hid (w.heap.size ≤ w.heap.size + 1) := by show w.heap.size ≤ w.heap.size + 1; have := HO.out.size; omega
  have B_res : Hid (Blk v1 (w.heap.size + 1 + 1) #[.int .i64 0, .int .i64 0, .float .f64 0, .float .f64 0, .float .f64 0, .float .f64 0, .float .f64 0, .float .f64 0, .float .f64 0, .float .f64 0, .float .f64 0, .float .f64 0, .float .f64 0, .float .f64 0, .float .f64 0] 43) := by show Blk v1 (w.heap.size + 1 + 1) _ _; rw [hv]; exact (Blk.new (by simp))
  have low_res : Hid (w.heap.size ≤ w.heap.size + 1 + 1) := by show w.heap.size ≤ w.heap.size + 1 + 1; have := HO.out.size; omega
  replace HO : Hid (Below w.heap.size w v1) := by show Below w.heap.size w v1; rw [hv]; exact (below_new (below_new (below_new HO.out _) _) _)
  clear hv
  have hgt := gt_fc (H.out.2.h 5 (by decide)) fc_zero
  cases hN : gtO (A 5) zO
  case false =>
    have hD : Hid (meetC G A = none) := by show meetC G A = none; unfold meetC; rw [if_neg (by rw [hN]; simp)]
    rw [hN] at hgt
    clear hN
    have a_0 := B_a.out.cell (j := 0) rfl
    have a_1 := B_a.out.cell (j := 1) rfl
    have a_2 := B_a.out.cell (j := 2) rfl
    have a_3 := B_a.out.cell (j := 3) rfl
    have a_4 := B_a.out.cell (j := 4) rfl
    have a_5 := B_a.out.cell (j := 5) rfl
    have a_f := B_a.out.frozen
    have a_z := B_a.out.lt
    go_wp2_with fail
    refine (sNone_any _ _).mono ?_
    rintro e v2 ⟨rfl, hb⟩
    clear a_0 a_1 a_2 a_3 a_4 a_5 a_f a_z
    replace B_f : Hid (Blk v2 (w.heap.size) #[.float .f64 (g 0), .float .f64 (g 1), .float .f64 (g 2), .float .f64 (g 3), .float .f64 (g 4)] 41) := by show Blk v2 (w.heap.size) _ _; exact Blk.old B_f.out hb
    replace B_a : Hid (Blk v2 (w.heap.size + 1) #[.float .f64 (a 0), .float .f64 (a 1), .float .f64 (a 2), .float .f64 (a 3), .float .f64 (a 4), .float .f64 (a 5)] 33) := by show Blk v2 (w.heap.size + 1) _ _; exact Blk.old B_a.out hb
    replace B_res : Hid (Blk v2 (w.heap.size + 1 + 1) #[.int .i64 0, .int .i64 0, .float .f64 0, .float .f64 0, .float .f64 0, .float .f64 0, .float .f64 0, .float .f64 0, .float .f64 0, .float .f64 0, .float .f64 0, .float .f64 0, .float .f64 0, .float .f64 0, .float .f64 0] 43) := by show Blk v2 (w.heap.size + 1 + 1) _ _; exact Blk.old B_res.out hb
    replace HO : Hid (Below w.heap.size w v2) := box_step HO.out hb (Nat.le_refl _)
    clear hb
    clear hgt
    dsimp only
    repeat (first | (refine wpList_store_row rfl 43 _ _ rfl (w.heap.size + 1 + 1) #[.int .i64 4, .int .i64 0, .float .f64 0, .float .f64 0, .float .f64 0, .float .f64 0, .float .f64 0, .float .f64 0, .float .f64 0, .float .f64 0, .float .f64 0, .float .f64 0, .float .f64 0, .float .f64 0, .float .f64 0] rfl rfl 43 #[.int .i64 0, .int .i64 0, .float .f64 0, .float .f64 0, .float .f64 0, .float .f64 0, .float .f64 0, .float .f64 0, .float .f64 0, .float .f64 0, .float .f64 0, .float .f64 0, .float .f64 0, .float .f64 0, .float .f64 0] B_res.out (by kernel_rfl) rfl (by simp [Value.oneCell']) ?_) | go_step)
    refine bodyPost_ret (res_blk Try.results14 rfl (run_loadVar_row (P := Try.prog) _ _ 43 43 #[.int .i64 4, .int .i64 0, .float .f64 0, .float .f64 0, .float .f64 0, .float .f64 0, .float .f64 0, .float .f64 0, .float .f64 0, .float .f64 0, .float .f64 0, .float .f64 0, .float .f64 0, .float .f64 0, .float .f64 0] (0, 0) _ (Blk.setRow B_res.out) Try.underlying43 rfl (by kernel_rfl))) rfl ⟨0, (fun _ => 0), (fun _ => 0), by rw [hD.out]; rfl, by rw [hD.out]; exact hc_none, ?_⟩
    exact below_setRow HO.out low_res.out _
  case true =>
    have hD : Hid (meetC G A = hitC G A 20 0 (opC .quo (negO (A 2)) (A 5))) := by show meetC G A = _; unfold meetC; rw [if_pos hN]
    rw [hN] at hgt
    clear hN
    have a_0 := B_a.out.cell (j := 0) rfl
    have a_1 := B_a.out.cell (j := 1) rfl
    have a_2 := B_a.out.cell (j := 2) rfl
    have a_3 := B_a.out.cell (j := 3) rfl
    have a_4 := B_a.out.cell (j := 4) rfl
    have a_5 := B_a.out.cell (j := 5) rfl
    have a_f := B_a.out.frozen
    have a_z := B_a.out.lt
    go_upto_region 3 with fail
    clear a_0 a_1 a_2 a_3 a_4 a_5 a_f a_z
    clear hgt
    obtain ⟨s2, q2, h2, F2⟩ := flop .quo (by simp) ((fc_neg ((H.out.2.h 2 (by decide))))) ((H.out.2.h 5 (by decide))) v1
    replace F2 : Hid _ := F2
    have a_0 := B_a.out.cell (j := 0) rfl
    have a_1 := B_a.out.cell (j := 1) rfl
    have a_2 := B_a.out.cell (j := 2) rfl
    have a_3 := B_a.out.cell (j := 3) rfl
    have a_4 := B_a.out.cell (j := 4) rfl
    have a_5 := B_a.out.cell (j := 5) rfl
    have a_f := B_a.out.frozen
    have a_z := B_a.out.lt
    go_upto_region 4 with fail
    clear a_0 a_1 a_2 a_3 a_4 a_5 a_f a_z
    obtain ⟨v3, hv⟩ : ∃ X, X = (v1.drewN (q2)) := ⟨_, rfl⟩
    rw [← hv]
    clear h2
    replace B_f : Hid (Blk v3 (w.heap.size) #[.float .f64 (g 0), .float .f64 (g 1), .float .f64 (g 2), .float .f64 (g 3), .float .f64 (g 4)] 41) := by show Blk v3 (w.heap.size) _ _; rw [hv]; exact (Blk.drewN B_f.out _)
    replace B_a : Hid (Blk v3 (w.heap.size + 1) #[.float .f64 (a 0), .float .f64 (a 1), .float .f64 (a 2), .float .f64 (a 3), .float .f64 (a 4), .float .f64 (a 5)] 33) := by show Blk v3 (w.heap.size + 1) _ _; rw [hv]; exact (Blk.drewN B_a.out _)
    replace B_res : Hid (Blk v3 (w.heap.size + 1 + 1) #[.int .i64 0, .int .i64 0, .float .f64 0, .float .f64 0, .float .f64 0, .float .f64 0, .float .f64 0, .float .f64 0, .float .f64 0, .float .f64 0, .float .f64 0, .float .f64 0, .float .f64 0, .float .f64 0, .float .f64 0] 43) := by show Blk v3 (w.heap.size + 1 + 1) _ _; rw [hv]; exact (Blk.drewN B_res.out _)
    replace HO : Hid (Below w.heap.size w v3) := by show Below w.heap.size w v3; rw [hv]; exact (below_drewN HO.out _)
    clear hv
    go_wp2_with fail
    go_loopw [5, 6] (fun s5 s6 wr => ∃ (k l : Nat) (L : Option Nat), k ≤ 20 ∧ s5 = .float .f64 l ∧ s6 = .int .i64 k ∧ Hid ((Fc l L ∧ meetC G A = hitC G A (20 - k) k L) ∧ Blk wr (w.heap.size) #[.float .f64 (g 0), .float .f64 (g 1), .float .f64 (g 2), .float .f64 (g 3), .float .f64 (g 4)] 41 ∧ Blk wr (w.heap.size + 1) #[.float .f64 (a 0), .float .f64 (a 1), .float .f64 (a 2), .float .f64 (a 3), .float .f64 (a 4), .float .f64 (a 5)] 33 ∧ Blk wr (w.heap.size + 1 + 1) #[.int .i64 0, .int .i64 0, .float .f64 0, .float .f64 0, .float .f64 0, .float .f64 0, .float .f64 0, .float .f64 0, .float .f64 0, .float .f64 0, .float .f64 0, .float .f64 0, .float .f64 0, .float .f64 0, .float .f64 0] 43 ∧ Below w.heap.size w wr)) (fun _ s6 _ => 20 - (intOf s6).toNat)
    case atStart => exact ⟨0, _, _, by omega, rfl, rfl, ⟨F2.out, hD.out⟩, B_f.out, B_a.out, B_res.out, HO.out⟩
    case round =>
      clear HO B_f B_a B_res hD
      obtain ⟨k, l, L, hk, rfl, rfl, HH⟩ := hrel
      have B_f : Hid (Blk wr (w.heap.size) #[.float .f64 (g 0), .float .f64 (g 1), .float .f64 (g 2), .float .f64 (g 3), .float .f64 (g 4)] 41) := HH.out.2.1
      have B_a : Hid (Blk wr (w.heap.size + 1) #[.float .f64 (a 0), .float .f64 (a 1), .float .f64 (a 2), .float .f64 (a 3), .float .f64 (a 4), .float .f64 (a 5)] 33) := HH.out.2.2.1
      have B_res : Hid (Blk wr (w.heap.size + 1 + 1) #[.int .i64 0, .int .i64 0, .float .f64 0, .float .f64 0, .float .f64 0, .float .f64 0, .float .f64 0, .float .f64 0, .float .f64 0, .float .f64 0, .float .f64 0, .float .f64 0, .float .f64 0, .float .f64 0, .float .f64 0] 43) := HH.out.2.2.2.1
      have HO : Hid (Below w.heap.size w wr) := HH.out.2.2.2.2
      have HL : Hid (Fc l L ∧ meetC G A = hitC G A (20 - k) k L) := HH.out.1
      clear HH
      by_cases hk2 : k < 20
      case neg =>
        obtain rfl : k = 20 := by omega
        have hD : Hid (meetC G A = none) := HL.out.2
        go_wp2_with fail
        refine (sNone_any _ _).mono ?_
        rintro e v4 ⟨rfl, hb⟩
        replace B_f : Hid (Blk v4 (w.heap.size) #[.float .f64 (g 0), .float .f64 (g 1), .float .f64 (g 2), .float .f64 (g 3), .float .f64 (g 4)] 41) := by show Blk v4 (w.heap.size) _ _; exact Blk.old B_f.out hb
        replace B_a : Hid (Blk v4 (w.heap.size + 1) #[.float .f64 (a 0), .float .f64 (a 1), .float .f64 (a 2), .float .f64 (a 3), .float .f64 (a 4), .float .f64 (a 5)] 33) := by show Blk v4 (w.heap.size + 1) _ _; exact Blk.old B_a.out hb
        replace B_res : Hid (Blk v4 (w.heap.size + 1 + 1) #[.int .i64 0, .int .i64 0, .float .f64 0, .float .f64 0, .float .f64 0, .float .f64 0, .float .f64 0, .float .f64 0, .float .f64 0, .float .f64 0, .float .f64 0, .float .f64 0, .float .f64 0, .float .f64 0, .float .f64 0] 43) := by show Blk v4 (w.heap.size + 1 + 1) _ _; exact Blk.old B_res.out hb
        replace HO : Hid (Below w.heap.size w v4) := box_step HO.out hb (Nat.le_refl _)
        clear hb
        dsimp only
        repeat (first | (refine wpList_store_row rfl 43 _ _ rfl (w.heap.size + 1 + 1) #[.int .i64 4, .int .i64 0, .float .f64 0, .float .f64 0, .float .f64 0, .float .f64 0, .float .f64 0, .float .f64 0, .float .f64 0, .float .f64 0, .float .f64 0, .float .f64 0, .float .f64 0, .float .f64 0, .float .f64 0] rfl rfl 43 #[.int .i64 0, .int .i64 0, .float .f64 0, .float .f64 0, .float .f64 0, .float .f64 0, .float .f64 0, .float .f64 0, .float .f64 0, .float .f64 0, .float .f64 0, .float .f64 0, .float .f64 0, .float .f64 0, .float .f64 0] B_res.out (by kernel_rfl) rfl (by simp [Value.oneCell']) ?_) | go_step)
        refine bodyPost_ret (res_blk Try.results14 rfl (run_loadVar_row (P := Try.prog) _ _ 43 43 #[.int .i64 4, .int .i64 0, .float .f64 0, .float .f64 0, .float .f64 0, .float .f64 0, .float .f64 0, .float .f64 0, .float .f64 0, .float .f64 0, .float .f64 0, .float .f64 0, .float .f64 0, .float .f64 0, .float .f64 0] (0, 0) _ (Blk.setRow B_res.out) Try.underlying43 rfl (by kernel_rfl))) rfl ⟨0, (fun _ => 0), (fun _ => 0), by rw [hD.out]; rfl, by rw [hD.out]; exact hc_none, ?_⟩
        exact below_setRow HO.out low_res.out _
      case pos =>
        have hkI : (k : Int) < 20 := by omega
        have h20 : 20 - k = (20 - (k + 1)) + 1 := by omega
        have HL2 : Hid (meetC G A = hitC G A ((20 - (k + 1)) + 1) k L) := by show meetC G A = _; rw [← h20]; exact HL.out.2
        clear h20
        go_upto_region 7 with fail
        have a_0 := B_a.out.cell (j := 0) rfl
        have a_1 := B_a.out.cell (j := 1) rfl
        have a_2 := B_a.out.cell (j := 2) rfl
        have a_3 := B_a.out.cell (j := 3) rfl
        have a_4 := B_a.out.cell (j := 4) rfl
        have a_5 := B_a.out.cell (j := 5) rfl
        have a_f := B_a.out.frozen
        have a_z := B_a.out.lt
        go_wp2_with fail
        refine (sAt_any H.out.2 HL.out.1 _).mono ?_
        rintro e v4 ⟨z, rfl, hz, hb⟩
        clear a_0 a_1 a_2 a_3 a_4 a_5 a_f a_z
        replace B_f : Hid (Blk v4 (w.heap.size) #[.float .f64 (g 0), .float .f64 (g 1), .float .f64 (g 2), .float .f64 (g 3), .float .f64 (g 4)] 41) := by show Blk v4 (w.heap.size) _ _; exact Blk.old B_f.out hb
        replace B_a : Hid (Blk v4 (w.heap.size + 1) #[.float .f64 (a 0), .float .f64 (a 1), .float .f64 (a 2), .float .f64 (a 3), .float .f64 (a 4), .float .f64 (a 5)] 33) := by show Blk v4 (w.heap.size + 1) _ _; exact Blk.old B_a.out hb
        replace B_res : Hid (Blk v4 (w.heap.size + 1 + 1) #[.int .i64 0, .int .i64 0, .float .f64 0, .float .f64 0, .float .f64 0, .float .f64 0, .float .f64 0, .float .f64 0, .float .f64 0, .float .f64 0, .float .f64 0, .float .f64 0, .float .f64 0, .float .f64 0, .float .f64 0] 43) := by show Blk v4 (w.heap.size + 1 + 1) _ _; exact Blk.old B_res.out hb
        replace HO : Hid (Below w.heap.size w v4) := box_step HO.out hb (Nat.le_refl _)
        clear hb
        replace hz : Hid _ := hz
        go_upto_region 8 with fail
        obtain ⟨v5, hv⟩ : ∃ X, X = (v4.alloc (.cells #[.float .f64 (z 0), .float .f64 (z 1), .float .f64 (z 2), .float .f64 (z 3), .float .f64 (z 4), .float .f64 (z 5)] 33)) := ⟨_, rfl⟩
        rw [← hv]
        have ne_f_z : Hid (w.heap.size ≠ v4.heap.size) := Nat.ne_of_lt (Nat.lt_of_lt_of_le B_f.out.lt (by omega))
        have ne_a_z : Hid (w.heap.size + 1 ≠ v4.heap.size) := Nat.ne_of_lt (Nat.lt_of_lt_of_le B_a.out.lt (by omega))
        have ne_res_z : Hid (w.heap.size + 1 + 1 ≠ v4.heap.size) := Nat.ne_of_lt (Nat.lt_of_lt_of_le B_res.out.lt (by omega))
        have B_z : Hid (Blk v5 (v4.heap.size) #[.float .f64 (z 0), .float .f64 (z 1), .float .f64 (z 2), .float .f64 (z 3), .float .f64 (z 4), .float .f64 (z 5)] 33) := by show Blk v5 (v4.heap.size) _ _; rw [hv]; exact (Blk.new (by simp))
        have low_z : Hid (w.heap.size ≤ v4.heap.size) := by show w.heap.size ≤ v4.heap.size; have := HO.out.size; omega
        replace B_f : Hid (Blk v5 (w.heap.size) #[.float .f64 (g 0), .float .f64 (g 1), .float .f64 (g 2), .float .f64 (g 3), .float .f64 (g 4)] 41) := by show Blk v5 (w.heap.size) _ _; rw [hv]; exact (Blk.alloc B_f.out _)
        replace B_a : Hid (Blk v5 (w.heap.size + 1) #[.float .f64 (a 0), .float .f64 (a 1), .float .f64 (a 2), .float .f64 (a 3), .float .f64 (a 4), .float .f64 (a 5)] 33) := by show Blk v5 (w.heap.size + 1) _ _; rw [hv]; exact (Blk.alloc B_a.out _)
        replace B_res : Hid (Blk v5 (w.heap.size + 1 + 1) #[.int .i64 0, .int .i64 0, .float .f64 0, .float .f64 0, .float .f64 0, .float .f64 0, .float .f64 0, .float .f64 0, .float .f64 0, .float .f64 0, .float .f64 0, .float .f64 0, .float .f64 0, .float .f64 0, .float .f64 0] 43) := by show Blk v5 (w.heap.size + 1 + 1) _ _; rw [hv]; exact (Blk.alloc B_res.out _)
        replace HO : Hid (Below w.heap.size w v5) := by show Below w.heap.size w v5; rw [hv]; exact (below_new HO.out _)
        clear hv
        cases hs : (sagC (G 0) (G 1) (sqr (posC A L 0) (posC A L 1)))
        case none =>
          have HS : Hid (∀ W, SV 26 #[Gv g, .float .f64 (z 0), .float .f64 (z 1)] W (sagC (G 0) (G 1) (sqr (posC A L 0) (posC A L 1)))) := fun W => sSag_any H.out.1 (hz.out.h 0 (by decide)) (hz.out.h 1 (by decide)) W
          rw [hs] at HS
          have f_0 := B_f.out.cell (j := 0) rfl
          have f_1 := B_f.out.cell (j := 1) rfl
          have f_2 := B_f.out.cell (j := 2) rfl
          have f_3 := B_f.out.cell (j := 3) rfl
          have f_4 := B_f.out.cell (j := 4) rfl
          have f_f := B_f.out.frozen
          have f_z := B_f.out.lt
          have z_0 := B_z.out.cell (j := 0) rfl
          have z_1 := B_z.out.cell (j := 1) rfl
          have z_2 := B_z.out.cell (j := 2) rfl
          have z_3 := B_z.out.cell (j := 3) rfl
          have z_4 := B_z.out.cell (j := 4) rfl
          have z_5 := B_z.out.cell (j := 5) rfl
          have z_f := B_z.out.frozen
          have z_z := B_z.out.lt
          go_wp2_with fail
          refine (sv_none (HS.out _)).mono ?_
          rintro e v6 ⟨ss, su, rfl, hS, hb⟩
          clear f_0 f_1 f_2 f_3 f_4 f_f f_z z_0 z_1 z_2 z_3 z_4 z_5 z_f z_z
          replace B_f : Hid (Blk v6 (w.heap.size) #[.float .f64 (g 0), .float .f64 (g 1), .float .f64 (g 2), .float .f64 (g 3), .float .f64 (g 4)] 41) := by show Blk v6 (w.heap.size) _ _; exact Blk.old B_f.out hb
          replace B_a : Hid (Blk v6 (w.heap.size + 1) #[.float .f64 (a 0), .float .f64 (a 1), .float .f64 (a 2), .float .f64 (a 3), .float .f64 (a 4), .float .f64 (a 5)] 33) := by show Blk v6 (w.heap.size + 1) _ _; exact Blk.old B_a.out hb
          replace B_res : Hid (Blk v6 (w.heap.size + 1 + 1) #[.int .i64 0, .int .i64 0, .float .f64 0, .float .f64 0, .float .f64 0, .float .f64 0, .float .f64 0, .float .f64 0, .float .f64 0, .float .f64 0, .float .f64 0, .float .f64 0, .float .f64 0, .float .f64 0, .float .f64 0] 43) := by show Blk v6 (w.heap.size + 1 + 1) _ _; exact Blk.old B_res.out hb
          replace B_z : Hid (Blk v6 (v4.heap.size) #[.float .f64 (z 0), .float .f64 (z 1), .float .f64 (z 2), .float .f64 (z 3), .float .f64 (z 4), .float .f64 (z 5)] 33) := by show Blk v6 (v4.heap.size) _ _; exact Blk.old B_z.out hb
          replace HO : Hid (Below w.heap.size w v6) := box_step HO.out hb (Nat.le_refl _)
          clear hb
          replace hS : Hid _ := hS
          clear HS
          go_upto_region 9 with fail
          obtain ⟨v7, hv⟩ : ∃ X, X = (v6.alloc (.cells #[.int .i64 4, .float .f64 ss, .float .f64 su] 58)) := ⟨_, rfl⟩
          rw [← hv]
          have ne_f_s : Hid (w.heap.size ≠ v6.heap.size) := Nat.ne_of_lt (Nat.lt_of_lt_of_le B_f.out.lt (by omega))
          have ne_a_s : Hid (w.heap.size + 1 ≠ v6.heap.size) := Nat.ne_of_lt (Nat.lt_of_lt_of_le B_a.out.lt (by omega))
          have ne_res_s : Hid (w.heap.size + 1 + 1 ≠ v6.heap.size) := Nat.ne_of_lt (Nat.lt_of_lt_of_le B_res.out.lt (by omega))
          have ne_z_s : Hid (v4.heap.size ≠ v6.heap.size) := Nat.ne_of_lt (Nat.lt_of_lt_of_le B_z.out.lt (by omega))
          have B_s : Hid (Blk v7 (v6.heap.size) #[.int .i64 4, .float .f64 ss, .float .f64 su] 58) := by show Blk v7 (v6.heap.size) _ _; rw [hv]; exact (Blk.new (by simp))
          have low_s : Hid (w.heap.size ≤ v6.heap.size) := by show w.heap.size ≤ v6.heap.size; have := HO.out.size; omega
          replace B_f : Hid (Blk v7 (w.heap.size) #[.float .f64 (g 0), .float .f64 (g 1), .float .f64 (g 2), .float .f64 (g 3), .float .f64 (g 4)] 41) := by show Blk v7 (w.heap.size) _ _; rw [hv]; exact (Blk.alloc B_f.out _)
          replace B_a : Hid (Blk v7 (w.heap.size + 1) #[.float .f64 (a 0), .float .f64 (a 1), .float .f64 (a 2), .float .f64 (a 3), .float .f64 (a 4), .float .f64 (a 5)] 33) := by show Blk v7 (w.heap.size + 1) _ _; rw [hv]; exact (Blk.alloc B_a.out _)
          replace B_res : Hid (Blk v7 (w.heap.size + 1 + 1) #[.int .i64 0, .int .i64 0, .float .f64 0, .float .f64 0, .float .f64 0, .float .f64 0, .float .f64 0, .float .f64 0, .float .f64 0, .float .f64 0, .float .f64 0, .float .f64 0, .float .f64 0, .float .f64 0, .float .f64 0] 43) := by show Blk v7 (w.heap.size + 1 + 1) _ _; rw [hv]; exact (Blk.alloc B_res.out _)
          replace B_z : Hid (Blk v7 (v4.heap.size) #[.float .f64 (z 0), .float .f64 (z 1), .float .f64 (z 2), .float .f64 (z 3), .float .f64 (z 4), .float .f64 (z 5)] 33) := by show Blk v7 (v4.heap.size) _ _; rw [hv]; exact (Blk.alloc B_z.out _)
          replace HO : Hid (Below w.heap.size w v7) := by show Below w.heap.size w v7; rw [hv]; exact (below_new HO.out _)
          clear hv
          have hD : Hid (meetC G A = none) := HL2.out.trans (hit_none hs)
          have s_0 := B_s.out.cell (j := 0) rfl
          have s_1 := B_s.out.cell (j := 1) rfl
          have s_2 := B_s.out.cell (j := 2) rfl
          have s_f := B_s.out.frozen
          have s_z := B_s.out.lt
          go_wp2_with fail
          refine (sNone_any _ _).mono ?_
          rintro e v8 ⟨rfl, hb⟩
          clear s_0 s_1 s_2 s_f s_z
          replace B_f : Hid (Blk v8 (w.heap.size) #[.float .f64 (g 0), .float .f64 (g 1), .float .f64 (g 2), .float .f64 (g 3), .float .f64 (g 4)] 41) := by show Blk v8 (w.heap.size) _ _; exact Blk.old B_f.out hb
          replace B_a : Hid (Blk v8 (w.heap.size + 1) #[.float .f64 (a 0), .float .f64 (a 1), .float .f64 (a 2), .float .f64 (a 3), .float .f64 (a 4), .float .f64 (a 5)] 33) := by show Blk v8 (w.heap.size + 1) _ _; exact Blk.old B_a.out hb
          replace B_res : Hid (Blk v8 (w.heap.size + 1 + 1) #[.int .i64 0, .int .i64 0, .float .f64 0, .float .f64 0, .float .f64 0, .float .f64 0, .float .f64 0, .float .f64 0, .float .f64 0, .float .f64 0, .float .f64 0, .float .f64 0, .float .f64 0, .float .f64 0, .float .f64 0] 43) := by show Blk v8 (w.heap.size + 1 + 1) _ _; exact Blk.old B_res.out hb
          replace B_z : Hid (Blk v8 (v4.heap.size) #[.float .f64 (z 0), .float .f64 (z 1), .float .f64 (z 2), .float .f64 (z 3), .float .f64 (z 4), .float .f64 (z 5)] 33) := by show Blk v8 (v4.heap.size) _ _; exact Blk.old B_z.out hb
          replace B_s : Hid (Blk v8 (v6.heap.size) #[.int .i64 4, .float .f64 ss, .float .f64 su] 58) := by show Blk v8 (v6.heap.size) _ _; exact Blk.old B_s.out hb
          replace HO : Hid (Below w.heap.size w v8) := box_step HO.out hb (Nat.le_refl _)
          clear hb
          dsimp only
          repeat (first | (refine wpList_store_row rfl 43 _ _ rfl (w.heap.size + 1 + 1) #[.int .i64 4, .int .i64 0, .float .f64 0, .float .f64 0, .float .f64 0, .float .f64 0, .float .f64 0, .float .f64 0, .float .f64 0, .float .f64 0, .float .f64 0, .float .f64 0, .float .f64 0, .float .f64 0, .float .f64 0] rfl rfl 43 #[.int .i64 0, .int .i64 0, .float .f64 0, .float .f64 0, .float .f64 0, .float .f64 0, .float .f64 0, .float .f64 0, .float .f64 0, .float .f64 0, .float .f64 0, .float .f64 0, .float .f64 0, .float .f64 0, .float .f64 0] B_res.out (by kernel_rfl) rfl (by simp [Value.oneCell']) ?_) | go_step)
          refine bodyPost_ret (res_blk Try.results14 rfl (run_loadVar_row (P := Try.prog) _ _ 43 43 #[.int .i64 4, .int .i64 0, .float .f64 0, .float .f64 0, .float .f64 0, .float .f64 0, .float .f64 0, .float .f64 0, .float .f64 0, .float .f64 0, .float .f64 0, .float .f64 0, .float .f64 0, .float .f64 0, .float .f64 0] (0, 0) _ (Blk.setRow B_res.out) Try.underlying43 rfl (by kernel_rfl))) rfl ⟨0, (fun _ => 0), (fun _ => 0), by rw [hD.out]; rfl, by rw [hD.out]; exact hc_none, ?_⟩
          exact below_setRow HO.out low_res.out _
        case some sgv =>
          have HS : Hid (∀ W, SV 26 #[Gv g, .float .f64 (z 0), .float .f64 (z 1)] W (sagC (G 0) (G 1) (sqr (posC A L 0) (posC A L 1)))) := fun W => sSag_any H.out.1 (hz.out.h 0 (by decide)) (hz.out.h 1 (by decide)) W
          rw [hs] at HS
          have f_0 := B_f.out.cell (j := 0) rfl
          have f_1 := B_f.out.cell (j := 1) rfl
          have f_2 := B_f.out.cell (j := 2) rfl
          have f_3 := B_f.out.cell (j := 3) rfl
          have f_4 := B_f.out.cell (j := 4) rfl
          have f_f := B_f.out.frozen
          have f_z := B_f.out.lt
          have z_0 := B_z.out.cell (j := 0) rfl
          have z_1 := B_z.out.cell (j := 1) rfl
          have z_2 := B_z.out.cell (j := 2) rfl
          have z_3 := B_z.out.cell (j := 3) rfl
          have z_4 := B_z.out.cell (j := 4) rfl
          have z_5 := B_z.out.cell (j := 5) rfl
          have z_f := B_z.out.frozen
          have z_z := B_z.out.lt
          go_wp2_with fail
          refine (sv_some (HS.out _)).mono ?_
          rintro e v6 ⟨ss, su, rfl, hS, hb⟩
          clear f_0 f_1 f_2 f_3 f_4 f_f f_z z_0 z_1 z_2 z_3 z_4 z_5 z_f z_z
          replace B_f : Hid (Blk v6 (w.heap.size) #[.float .f64 (g 0), .float .f64 (g 1), .float .f64 (g 2), .float .f64 (g 3), .float .f64 (g 4)] 41) := by show Blk v6 (w.heap.size) _ _; exact Blk.old B_f.out hb
          replace B_a : Hid (Blk v6 (w.heap.size + 1) #[.float .f64 (a 0), .float .f64 (a 1), .float .f64 (a 2), .float .f64 (a 3), .float .f64 (a 4), .float .f64 (a 5)] 33) := by show Blk v6 (w.heap.size + 1) _ _; exact Blk.old B_a.out hb
          replace B_res : Hid (Blk v6 (w.heap.size + 1 + 1) #[.int .i64 0, .int .i64 0, .float .f64 0, .float .f64 0, .float .f64 0, .float .f64 0, .float .f64 0, .float .f64 0, .float .f64 0, .float .f64 0, .float .f64 0, .float .f64 0, .float .f64 0, .float .f64 0, .float .f64 0] 43) := by show Blk v6 (w.heap.size + 1 + 1) _ _; exact Blk.old B_res.out hb
          replace B_z : Hid (Blk v6 (v4.heap.size) #[.float .f64 (z 0), .float .f64 (z 1), .float .f64 (z 2), .float .f64 (z 3), .float .f64 (z 4), .float .f64 (z 5)] 33) := by show Blk v6 (v4.heap.size) _ _; exact Blk.old B_z.out hb
          replace HO : Hid (Below w.heap.size w v6) := box_step HO.out hb (Nat.le_refl _)
          clear hb
          replace hS : Hid _ := hS
          clear HS
          go_upto_region 9 with fail
          obtain ⟨v7, hv⟩ : ∃ X, X = (v6.alloc (.cells #[.int .i64 0, .float .f64 ss, .float .f64 su] 58)) := ⟨_, rfl⟩
          rw [← hv]
          have ne_f_s : Hid (w.heap.size ≠ v6.heap.size) := Nat.ne_of_lt (Nat.lt_of_lt_of_le B_f.out.lt (by omega))
          have ne_a_s : Hid (w.heap.size + 1 ≠ v6.heap.size) := Nat.ne_of_lt (Nat.lt_of_lt_of_le B_a.out.lt (by omega))
          have ne_res_s : Hid (w.heap.size + 1 + 1 ≠ v6.heap.size) := Nat.ne_of_lt (Nat.lt_of_lt_of_le B_res.out.lt (by omega))
          have ne_z_s : Hid (v4.heap.size ≠ v6.heap.size) := Nat.ne_of_lt (Nat.lt_of_lt_of_le B_z.out.lt (by omega))
          have B_s : Hid (Blk v7 (v6.heap.size) #[.int .i64 0, .float .f64 ss, .float .f64 su] 58) := by show Blk v7 (v6.heap.size) _ _; rw [hv]; exact (Blk.new (by simp))
          have low_s : Hid (w.heap.size ≤ v6.heap.size) := by show w.heap.size ≤ v6.heap.size; have := HO.out.size; omega
          replace B_f : Hid (Blk v7 (w.heap.size) #[.float .f64 (g 0), .float .f64 (g 1), .float .f64 (g 2), .float .f64 (g 3), .float .f64 (g 4)] 41) := by show Blk v7 (w.heap.size) _ _; rw [hv]; exact (Blk.alloc B_f.out _)
          replace B_a : Hid (Blk v7 (w.heap.size + 1) #[.float .f64 (a 0), .float .f64 (a 1), .float .f64 (a 2), .float .f64 (a 3), .float .f64 (a 4), .float .f64 (a 5)] 33) := by show Blk v7 (w.heap.size + 1) _ _; rw [hv]; exact (Blk.alloc B_a.out _)
          replace B_res : Hid (Blk v7 (w.heap.size + 1 + 1) #[.int .i64 0, .int .i64 0, .float .f64 0, .float .f64 0, .float .f64 0, .float .f64 0, .float .f64 0, .float .f64 0, .float .f64 0, .float .f64 0, .float .f64 0, .float .f64 0, .float .f64 0, .float .f64 0, .float .f64 0] 43) := by show Blk v7 (w.heap.size + 1 + 1) _ _; rw [hv]; exact (Blk.alloc B_res.out _)
          replace B_z : Hid (Blk v7 (v4.heap.size) #[.float .f64 (z 0), .float .f64 (z 1), .float .f64 (z 2), .float .f64 (z 3), .float .f64 (z 4), .float .f64 (z 5)] 33) := by show Blk v7 (v4.heap.size) _ _; rw [hv]; exact (Blk.alloc B_z.out _)
          replace HO : Hid (Below w.heap.size w v7) := by show Below w.heap.size w v7; rw [hv]; exact (below_new HO.out _)
          clear hv
          have s_0 := B_s.out.cell (j := 0) rfl
          have s_1 := B_s.out.cell (j := 1) rfl
          have s_2 := B_s.out.cell (j := 2) rfl
          have s_f := B_s.out.frozen
          have s_z := B_s.out.lt
          go_upto_region 11 with fail
          clear s_0 s_1 s_2 s_f s_z
          obtain ⟨s8, q8, h8, F8⟩ := flop .sub (by simp) (hS.out.1) ((hz.out.h 2 (by decide))) v7
          replace F8 : Hid _ := F8
          have s_0 := B_s.out.cell (j := 0) rfl
          have s_1 := B_s.out.cell (j := 1) rfl
          have s_2 := B_s.out.cell (j := 2) rfl
          have s_f := B_s.out.frozen
          have s_z := B_s.out.lt
          have z_0 := B_z.out.cell (j := 0) rfl
          have z_1 := B_z.out.cell (j := 1) rfl
          have z_2 := B_z.out.cell (j := 2) rfl
          have z_3 := B_z.out.cell (j := 3) rfl
          have z_4 := B_z.out.cell (j := 4) rfl
          have z_5 := B_z.out.cell (j := 5) rfl
          have z_f := B_z.out.frozen
          have z_z := B_z.out.lt
          go_upto_region 12 with fail
          clear s_0 s_1 s_2 s_f s_z z_0 z_1 z_2 z_3 z_4 z_5 z_f z_z
          obtain ⟨v9, hv⟩ : ∃ X, X = (v7.drewN (q8)) := ⟨_, rfl⟩
          rw [← hv]
          clear h8
          replace B_f : Hid (Blk v9 (w.heap.size) #[.float .f64 (g 0), .float .f64 (g 1), .float .f64 (g 2), .float .f64 (g 3), .float .f64 (g 4)] 41) := by show Blk v9 (w.heap.size) _ _; rw [hv]; exact (Blk.drewN B_f.out _)
          replace B_a : Hid (Blk v9 (w.heap.size + 1) #[.float .f64 (a 0), .float .f64 (a 1), .float .f64 (a 2), .float .f64 (a 3), .float .f64 (a 4), .float .f64 (a 5)] 33) := by show Blk v9 (w.heap.size + 1) _ _; rw [hv]; exact (Blk.drewN B_a.out _)
          replace B_res : Hid (Blk v9 (w.heap.size + 1 + 1) #[.int .i64 0, .int .i64 0, .float .f64 0, .float .f64 0, .float .f64 0, .float .f64 0, .float .f64 0, .float .f64 0, .float .f64 0, .float .f64 0, .float .f64 0, .float .f64 0, .float .f64 0, .float .f64 0, .float .f64 0] 43) := by show Blk v9 (w.heap.size + 1 + 1) _ _; rw [hv]; exact (Blk.drewN B_res.out _)
          replace B_z : Hid (Blk v9 (v4.heap.size) #[.float .f64 (z 0), .float .f64 (z 1), .float .f64 (z 2), .float .f64 (z 3), .float .f64 (z 4), .float .f64 (z 5)] 33) := by show Blk v9 (v4.heap.size) _ _; rw [hv]; exact (Blk.drewN B_z.out _)
          replace B_s : Hid (Blk v9 (v6.heap.size) #[.int .i64 0, .float .f64 ss, .float .f64 su] 58) := by show Blk v9 (v6.heap.size) _ _; rw [hv]; exact (Blk.drewN B_s.out _)
          replace HO : Hid (Below w.heap.size w v9) := by show Below w.heap.size w v9; rw [hv]; exact (below_drewN HO.out _)
          clear hv
          obtain ⟨s10, q10, h10, F10⟩ := flop .mul (by simp) ((H.out.1.h 0 (by decide))) ((hz.out.h 0 (by decide))) v9
          replace F10 : Hid _ := F10
          obtain ⟨s11, q11, h11, F11⟩ := flop .quo (by simp) (F10.out) (hS.out.2) (v9.drewN (q10))
          replace F11 : Hid _ := F11
          have f_0 := B_f.out.cell (j := 0) rfl
          have f_1 := B_f.out.cell (j := 1) rfl
          have f_2 := B_f.out.cell (j := 2) rfl
          have f_3 := B_f.out.cell (j := 3) rfl
          have f_4 := B_f.out.cell (j := 4) rfl
          have f_f := B_f.out.frozen
          have f_z := B_f.out.lt
          have z_0 := B_z.out.cell (j := 0) rfl
          have z_1 := B_z.out.cell (j := 1) rfl
          have z_2 := B_z.out.cell (j := 2) rfl
          have z_3 := B_z.out.cell (j := 3) rfl
          have z_4 := B_z.out.cell (j := 4) rfl
          have z_5 := B_z.out.cell (j := 5) rfl
          have z_f := B_z.out.frozen
          have z_z := B_z.out.lt
          have s_0 := B_s.out.cell (j := 0) rfl
          have s_1 := B_s.out.cell (j := 1) rfl
          have s_2 := B_s.out.cell (j := 2) rfl
          have s_f := B_s.out.frozen
          have s_z := B_s.out.lt
          go_upto_region 13 with fail
          clear f_0 f_1 f_2 f_3 f_4 f_f f_z z_0 z_1 z_2 z_3 z_4 z_5 z_f z_z s_0 s_1 s_2 s_f s_z
          obtain ⟨v12, hv⟩ : ∃ X, X = (v9.drewN (q10 + q11)) := ⟨_, rfl⟩
          rw [← hv]
          clear h10 h11
          replace B_f : Hid (Blk v12 (w.heap.size) #[.float .f64 (g 0), .float .f64 (g 1), .float .f64 (g 2), .float .f64 (g 3), .float .f64 (g 4)] 41) := by show Blk v12 (w.heap.size) _ _; rw [hv]; exact (Blk.drewN B_f.out _)
          replace B_a : Hid (Blk v12 (w.heap.size + 1) #[.float .f64 (a 0), .float .f64 (a 1), .float .f64 (a 2), .float .f64 (a 3), .float .f64 (a 4), .float .f64 (a 5)] 33) := by show Blk v12 (w.heap.size + 1) _ _; rw [hv]; exact (Blk.drewN B_a.out _)
          replace B_res : Hid (Blk v12 (w.heap.size + 1 + 1) #[.int .i64 0, .int .i64 0, .float .f64 0, .float .f64 0, .float .f64 0, .float .f64 0, .float .f64 0, .float .f64 0, .float .f64 0, .float .f64 0, .float .f64 0, .float .f64 0, .float .f64 0, .float .f64 0, .float .f64 0] 43) := by show Blk v12 (w.heap.size + 1 + 1) _ _; rw [hv]; exact (Blk.drewN B_res.out _)
          replace B_z : Hid (Blk v12 (v4.heap.size) #[.float .f64 (z 0), .float .f64 (z 1), .float .f64 (z 2), .float .f64 (z 3), .float .f64 (z 4), .float .f64 (z 5)] 33) := by show Blk v12 (v4.heap.size) _ _; rw [hv]; exact (Blk.drewN B_z.out _)
          replace B_s : Hid (Blk v12 (v6.heap.size) #[.int .i64 0, .float .f64 ss, .float .f64 su] 58) := by show Blk v12 (v6.heap.size) _ _; rw [hv]; exact (Blk.drewN B_s.out _)
          replace HO : Hid (Below w.heap.size w v12) := by show Below w.heap.size w v12; rw [hv]; exact (below_drewN HO.out _)
          clear hv
          obtain ⟨s13, q13, h13, F13⟩ := flop .mul (by simp) ((H.out.1.h 0 (by decide))) ((hz.out.h 1 (by decide))) v12
          replace F13 : Hid _ := F13
          obtain ⟨s14, q14, h14, F14⟩ := flop .quo (by simp) (F13.out) (hS.out.2) (v12.drewN (q13))
          replace F14 : Hid _ := F14
          have f_0 := B_f.out.cell (j := 0) rfl
          have f_1 := B_f.out.cell (j := 1) rfl
          have f_2 := B_f.out.cell (j := 2) rfl
          have f_3 := B_f.out.cell (j := 3) rfl
          have f_4 := B_f.out.cell (j := 4) rfl
          have f_f := B_f.out.frozen
          have f_z := B_f.out.lt
          have z_0 := B_z.out.cell (j := 0) rfl
          have z_1 := B_z.out.cell (j := 1) rfl
          have z_2 := B_z.out.cell (j := 2) rfl
          have z_3 := B_z.out.cell (j := 3) rfl
          have z_4 := B_z.out.cell (j := 4) rfl
          have z_5 := B_z.out.cell (j := 5) rfl
          have z_f := B_z.out.frozen
          have z_z := B_z.out.lt
          have s_0 := B_s.out.cell (j := 0) rfl
          have s_1 := B_s.out.cell (j := 1) rfl
          have s_2 := B_s.out.cell (j := 2) rfl
          have s_f := B_s.out.frozen
          have s_z := B_s.out.lt
          go_upto_region 14 with fail
          clear f_0 f_1 f_2 f_3 f_4 f_f f_z z_0 z_1 z_2 z_3 z_4 z_5 z_f z_z s_0 s_1 s_2 s_f s_z
          obtain ⟨v15, hv⟩ : ∃ X, X = (v12.drewN (q13 + q14)) := ⟨_, rfl⟩
          rw [← hv]
          clear h13 h14
          replace B_f : Hid (Blk v15 (w.heap.size) #[.float .f64 (g 0), .float .f64 (g 1), .float .f64 (g 2), .float .f64 (g 3), .float .f64 (g 4)] 41) := by show Blk v15 (w.heap.size) _ _; rw [hv]; exact (Blk.drewN B_f.out _)
          replace B_a : Hid (Blk v15 (w.heap.size + 1) #[.float .f64 (a 0), .float .f64 (a 1), .float .f64 (a 2), .float .f64 (a 3), .float .f64 (a 4), .float .f64 (a 5)] 33) := by show Blk v15 (w.heap.size + 1) _ _; rw [hv]; exact (Blk.drewN B_a.out _)
          replace B_res : Hid (Blk v15 (w.heap.size + 1 + 1) #[.int .i64 0, .int .i64 0, .float .f64 0, .float .f64 0, .float .f64 0, .float .f64 0, .float .f64 0, .float .f64 0, .float .f64 0, .float .f64 0, .float .f64 0, .float .f64 0, .float .f64 0, .float .f64 0, .float .f64 0] 43) := by show Blk v15 (w.heap.size + 1 + 1) _ _; rw [hv]; exact (Blk.drewN B_res.out _)
          replace B_z : Hid (Blk v15 (v4.heap.size) #[.float .f64 (z 0), .float .f64 (z 1), .float .f64 (z 2), .float .f64 (z 3), .float .f64 (z 4), .float .f64 (z 5)] 33) := by show Blk v15 (v4.heap.size) _ _; rw [hv]; exact (Blk.drewN B_z.out _)
          replace B_s : Hid (Blk v15 (v6.heap.size) #[.int .i64 0, .float .f64 ss, .float .f64 su] 58) := by show Blk v15 (v6.heap.size) _ _; rw [hv]; exact (Blk.drewN B_s.out _)
          replace HO : Hid (Below w.heap.size w v15) := by show Below w.heap.size w v15; rw [hv]; exact (below_drewN HO.out _)
          clear hv
          obtain ⟨ab, hT, hAb⟩ := sAbs_fc (F8.out)
          replace hT : Hid _ := hT
          have hgt : _ = gtO (absC (opC .sub sgv.1 (posC A L 2))) nearO := gt_fc hAb fc_near
          clear hAb
          go_wp2_with fail
          refine (hT.out _).mono ?_
          rintro e wx ⟨rfl, rfl⟩
          clear hT
          cases hN : gtO (absC (opC .sub sgv.1 (posC A L 2))) nearO
          case false =>
            rw [hN] at hgt
            have hD : Hid (meetC G A = some ⟨k, L, posC A L, nrmC (slopeC (G 0) (posC A L 0) sgv.2) (slopeC (G 0) (posC A L 1) sgv.2)⟩) := HL2.out.trans (hit_end hs hN)
            obtain ⟨s16, q16, h16, F16⟩ := flop .mul (by simp) (F11.out) (F11.out) v15
            replace F16 : Hid _ := F16
            obtain ⟨s17, q17, h17, F17⟩ := flop .mul (by simp) (F14.out) (F14.out) (v15.drewN (q16))
            replace F17 : Hid _ := F17
            obtain ⟨s18, q18, h18, F18⟩ := flop .add (by simp) (F16.out) (F17.out) (v15.drewN (q16 + q17))
            replace F18 : Hid _ := F18
            obtain ⟨s19, q19, h19, F19⟩ := flop .add (by simp) (F18.out) (fc_one) (v15.drewN (q16 + q17 + q18))
            replace F19 : Hid _ := F19
            go_wp2_with fail
            refine (sSqrt_fc (F19.out) _).mono ?_
            rintro e v20 ⟨rt, rfl, hrt, hb⟩
            clear h16 h17 h18 h19
            replace B_f : Hid (Blk v20 (w.heap.size) #[.float .f64 (g 0), .float .f64 (g 1), .float .f64 (g 2), .float .f64 (g 3), .float .f64 (g 4)] 41) := by show Blk v20 (w.heap.size) _ _; exact Blk.old (Blk.drewN B_f.out _) hb
            replace B_a : Hid (Blk v20 (w.heap.size + 1) #[.float .f64 (a 0), .float .f64 (a 1), .float .f64 (a 2), .float .f64 (a 3), .float .f64 (a 4), .float .f64 (a 5)] 33) := by show Blk v20 (w.heap.size + 1) _ _; exact Blk.old (Blk.drewN B_a.out _) hb
            replace B_res : Hid (Blk v20 (w.heap.size + 1 + 1) #[.int .i64 0, .int .i64 0, .float .f64 0, .float .f64 0, .float .f64 0, .float .f64 0, .float .f64 0, .float .f64 0, .float .f64 0, .float .f64 0, .float .f64 0, .float .f64 0, .float .f64 0, .float .f64 0, .float .f64 0] 43) := by show Blk v20 (w.heap.size + 1 + 1) _ _; exact Blk.old (Blk.drewN B_res.out _) hb
            replace B_z : Hid (Blk v20 (v4.heap.size) #[.float .f64 (z 0), .float .f64 (z 1), .float .f64 (z 2), .float .f64 (z 3), .float .f64 (z 4), .float .f64 (z 5)] 33) := by show Blk v20 (v4.heap.size) _ _; exact Blk.old (Blk.drewN B_z.out _) hb
            replace B_s : Hid (Blk v20 (v6.heap.size) #[.int .i64 0, .float .f64 ss, .float .f64 su] 58) := by show Blk v20 (v6.heap.size) _ _; exact Blk.old (Blk.drewN B_s.out _) hb
            replace HO : Hid (Below w.heap.size w v20) := box_step (below_drewN HO.out _) hb (Nat.le_refl _)
            clear hb
            replace hrt : Hid _ := hrt
            clear hgt
            go_upto_region 16 with fail
            obtain ⟨s21, q21, h21, F21⟩ := flop .quo (by simp) ((fc_neg (F11.out))) (hrt.out) v20
            replace F21 : Hid _ := F21
            obtain ⟨s22, q22, h22, F22⟩ := flop .quo (by simp) ((fc_neg (F14.out))) (hrt.out) (v20.drewN (q21))
            replace F22 : Hid _ := F22
            obtain ⟨s23, q23, h23, F23⟩ := flop .quo (by simp) (fc_one) (hrt.out) (v20.drewN (q21 + q22))
            replace F23 : Hid _ := F23
            have z_0 := B_z.out.cell (j := 0) rfl
            have z_1 := B_z.out.cell (j := 1) rfl
            have z_2 := B_z.out.cell (j := 2) rfl
            have z_3 := B_z.out.cell (j := 3) rfl
            have z_4 := B_z.out.cell (j := 4) rfl
            have z_5 := B_z.out.cell (j := 5) rfl
            have z_f := B_z.out.frozen
            have z_z := B_z.out.lt
            skip
            repeat (first | (refine wpList_store_row rfl 43 _ _ rfl (w.heap.size + 1 + 1) #[.int .i64 0, .int .i64 (k), .float .f64 l, .float .f64 (z 0), .float .f64 (z 1), .float .f64 (z 2), .float .f64 (z 3), .float .f64 (z 4), .float .f64 (z 5), .float .f64 0, .float .f64 0, .float .f64 0, .float .f64 s21, .float .f64 s22, .float .f64 s23] rfl rfl 43 #[.int .i64 0, .int .i64 0, .float .f64 0, .float .f64 0, .float .f64 0, .float .f64 0, .float .f64 0, .float .f64 0, .float .f64 0, .float .f64 0, .float .f64 0, .float .f64 0, .float .f64 0, .float .f64 0, .float .f64 0] (Blk.drewN B_res.out _) (by kernel_rfl) rfl (by simp [Value.oneCell']) ?_) | go_step)
            refine bodyPost_ret (res_blk Try.results14 rfl (run_loadVar_row (P := Try.prog) _ _ 43 43 #[.int .i64 0, .int .i64 (k), .float .f64 l, .float .f64 (z 0), .float .f64 (z 1), .float .f64 (z 2), .float .f64 (z 3), .float .f64 (z 4), .float .f64 (z 5), .float .f64 0, .float .f64 0, .float .f64 0, .float .f64 s21, .float .f64 s22, .float .f64 s23] (0, 0) _ (Blk.setRow (Blk.drewN B_res.out _)) Try.underlying43 rfl (by kernel_rfl))) rfl ⟨_, r6 (z 0) (z 1) (z 2) (z 3) (z 4) (z 5), r6 (0) (0) (0) (s21) (s22) (s23), by rw [hD.out]; rfl, by rw [hD.out]; exact ⟨HL.out.1, rc_mk ((hz.out.h 0 (by decide))) ((hz.out.h 1 (by decide))) ((hz.out.h 2 (by decide))) ((hz.out.h 3 (by decide))) ((hz.out.h 4 (by decide))) ((hz.out.h 5 (by decide))), rc_mk (fc_zero) (fc_zero) (fc_zero) (F21.out) (F22.out) (F23.out)⟩, ?_⟩
            exact below_setRow (below_drewN HO.out _) low_res.out _
          case true =>
            rw [hN] at hgt
            go_upto_region 17 with fail
            clear hgt
            obtain ⟨s16, q16, h16, F16⟩ := flop .mul (by simp) ((H.out.2.h 3 (by decide))) (F11.out) v15
            replace F16 : Hid _ := F16
            obtain ⟨s17, q17, h17, F17⟩ := flop .mul (by simp) ((H.out.2.h 4 (by decide))) (F14.out) (v15.drewN (q16))
            replace F17 : Hid _ := F17
            obtain ⟨s18, q18, h18, F18⟩ := flop .add (by simp) (F16.out) (F17.out) (v15.drewN (q16 + q17))
            replace F18 : Hid _ := F18
            obtain ⟨s19, q19, h19, F19⟩ := flop .sub (by simp) ((H.out.2.h 5 (by decide))) (F18.out) (v15.drewN (q16 + q17 + q18))
            replace F19 : Hid _ := F19
            have a_0 := B_a.out.cell (j := 0) rfl
            have a_1 := B_a.out.cell (j := 1) rfl
            have a_2 := B_a.out.cell (j := 2) rfl
            have a_3 := B_a.out.cell (j := 3) rfl
            have a_4 := B_a.out.cell (j := 4) rfl
            have a_5 := B_a.out.cell (j := 5) rfl
            have a_f := B_a.out.frozen
            have a_z := B_a.out.lt
            go_upto_region 18 with fail
            clear a_0 a_1 a_2 a_3 a_4 a_5 a_f a_z
            obtain ⟨v20, hv⟩ : ∃ X, X = (v15.drewN (q16 + q17 + q18 + q19)) := ⟨_, rfl⟩
            rw [← hv]
            clear h16 h17 h18 h19
            replace B_f : Hid (Blk v20 (w.heap.size) #[.float .f64 (g 0), .float .f64 (g 1), .float .f64 (g 2), .float .f64 (g 3), .float .f64 (g 4)] 41) := by show Blk v20 (w.heap.size) _ _; rw [hv]; exact (Blk.drewN B_f.out _)
            replace B_a : Hid (Blk v20 (w.heap.size + 1) #[.float .f64 (a 0), .float .f64 (a 1), .float .f64 (a 2), .float .f64 (a 3), .float .f64 (a 4), .float .f64 (a 5)] 33) := by show Blk v20 (w.heap.size + 1) _ _; rw [hv]; exact (Blk.drewN B_a.out _)
            replace B_res : Hid (Blk v20 (w.heap.size + 1 + 1) #[.int .i64 0, .int .i64 0, .float .f64 0, .float .f64 0, .float .f64 0, .float .f64 0, .float .f64 0, .float .f64 0, .float .f64 0, .float .f64 0, .float .f64 0, .float .f64 0, .float .f64 0, .float .f64 0, .float .f64 0] 43) := by show Blk v20 (w.heap.size + 1 + 1) _ _; rw [hv]; exact (Blk.drewN B_res.out _)
            replace B_z : Hid (Blk v20 (v4.heap.size) #[.float .f64 (z 0), .float .f64 (z 1), .float .f64 (z 2), .float .f64 (z 3), .float .f64 (z 4), .float .f64 (z 5)] 33) := by show Blk v20 (v4.heap.size) _ _; rw [hv]; exact (Blk.drewN B_z.out _)
            replace B_s : Hid (Blk v20 (v6.heap.size) #[.int .i64 0, .float .f64 ss, .float .f64 su] 58) := by show Blk v20 (v6.heap.size) _ _; rw [hv]; exact (Blk.drewN B_s.out _)
            replace HO : Hid (Below w.heap.size w v20) := by show Below w.heap.size w v20; rw [hv]; exact (below_drewN HO.out _)
            clear hv
            have hg2 : _ = gtO (fallC A (slopeC (G 0) (posC A L 0) sgv.2) (slopeC (G 0) (posC A L 1) sgv.2)) zO := gt_fc (F19.out) fc_zero
            cases hM : gtO (fallC A (slopeC (G 0) (posC A L 0) sgv.2) (slopeC (G 0) (posC A L 1) sgv.2)) zO
            case false =>
              rw [hM] at hg2
              have hD : Hid (meetC G A = none) := HL2.out.trans (hit_lost hs hN hM)
              go_wp2_with fail
              refine (sNone_any _ _).mono ?_
              rintro e v21 ⟨rfl, hb⟩
              replace B_f : Hid (Blk v21 (w.heap.size) #[.float .f64 (g 0), .float .f64 (g 1), .float .f64 (g 2), .float .f64 (g 3), .float .f64 (g 4)] 41) := by show Blk v21 (w.heap.size) _ _; exact Blk.old B_f.out hb
              replace B_a : Hid (Blk v21 (w.heap.size + 1) #[.float .f64 (a 0), .float .f64 (a 1), .float .f64 (a 2), .float .f64 (a 3), .float .f64 (a 4), .float .f64 (a 5)] 33) := by show Blk v21 (w.heap.size + 1) _ _; exact Blk.old B_a.out hb
              replace B_res : Hid (Blk v21 (w.heap.size + 1 + 1) #[.int .i64 0, .int .i64 0, .float .f64 0, .float .f64 0, .float .f64 0, .float .f64 0, .float .f64 0, .float .f64 0, .float .f64 0, .float .f64 0, .float .f64 0, .float .f64 0, .float .f64 0, .float .f64 0, .float .f64 0] 43) := by show Blk v21 (w.heap.size + 1 + 1) _ _; exact Blk.old B_res.out hb
              replace B_z : Hid (Blk v21 (v4.heap.size) #[.float .f64 (z 0), .float .f64 (z 1), .float .f64 (z 2), .float .f64 (z 3), .float .f64 (z 4), .float .f64 (z 5)] 33) := by show Blk v21 (v4.heap.size) _ _; exact Blk.old B_z.out hb
              replace B_s : Hid (Blk v21 (v6.heap.size) #[.int .i64 0, .float .f64 ss, .float .f64 su] 58) := by show Blk v21 (v6.heap.size) _ _; exact Blk.old B_s.out hb
              replace HO : Hid (Below w.heap.size w v21) := box_step HO.out hb (Nat.le_refl _)
              clear hb
              clear hg2
              dsimp only
              repeat (first | (refine wpList_store_row rfl 43 _ _ rfl (w.heap.size + 1 + 1) #[.int .i64 4, .int .i64 0, .float .f64 0, .float .f64 0, .float .f64 0, .float .f64 0, .float .f64 0, .float .f64 0, .float .f64 0, .float .f64 0, .float .f64 0, .float .f64 0, .float .f64 0, .float .f64 0, .float .f64 0] rfl rfl 43 #[.int .i64 0, .int .i64 0, .float .f64 0, .float .f64 0, .float .f64 0, .float .f64 0, .float .f64 0, .float .f64 0, .float .f64 0, .float .f64 0, .float .f64 0, .float .f64 0, .float .f64 0, .float .f64 0, .float .f64 0] B_res.out (by kernel_rfl) rfl (by simp [Value.oneCell']) ?_) | go_step)
              refine bodyPost_ret (res_blk Try.results14 rfl (run_loadVar_row (P := Try.prog) _ _ 43 43 #[.int .i64 4, .int .i64 0, .float .f64 0, .float .f64 0, .float .f64 0, .float .f64 0, .float .f64 0, .float .f64 0, .float .f64 0, .float .f64 0, .float .f64 0, .float .f64 0, .float .f64 0, .float .f64 0, .float .f64 0] (0, 0) _ (Blk.setRow B_res.out) Try.underlying43 rfl (by kernel_rfl))) rfl ⟨0, (fun _ => 0), (fun _ => 0), by rw [hD.out]; rfl, by rw [hD.out]; exact hc_none, ?_⟩
              exact below_setRow HO.out low_res.out _
            case true =>
              rw [hM] at hg2
              have hD := HL2.out.trans (hit_on hs hN hM)
              replace hD : Hid _ := hD
              go_upto_region 20 with fail
              clear hg2
              obtain ⟨s21, q21, h21, F21⟩ := flop .quo (by simp) (F8.out) (F19.out) v20
              replace F21 : Hid _ := F21
              obtain ⟨s22, q22, h22, F22⟩ := flop .add (by simp) (HL.out.1) (F21.out) (v20.drewN (q21))
              replace F22 : Hid _ := F22
              go_upto_region 6 with fail
              obtain ⟨v23, hv⟩ : ∃ X, X = (v20.drewN (q21 + q22)) := ⟨_, rfl⟩
              rw [← hv]
              clear h21 h22
              replace B_f : Hid (Blk v23 (w.heap.size) #[.float .f64 (g 0), .float .f64 (g 1), .float .f64 (g 2), .float .f64 (g 3), .float .f64 (g 4)] 41) := by show Blk v23 (w.heap.size) _ _; rw [hv]; exact (Blk.drewN B_f.out _)
              replace B_a : Hid (Blk v23 (w.heap.size + 1) #[.float .f64 (a 0), .float .f64 (a 1), .float .f64 (a 2), .float .f64 (a 3), .float .f64 (a 4), .float .f64 (a 5)] 33) := by show Blk v23 (w.heap.size + 1) _ _; rw [hv]; exact (Blk.drewN B_a.out _)
              replace B_res : Hid (Blk v23 (w.heap.size + 1 + 1) #[.int .i64 0, .int .i64 0, .float .f64 0, .float .f64 0, .float .f64 0, .float .f64 0, .float .f64 0, .float .f64 0, .float .f64 0, .float .f64 0, .float .f64 0, .float .f64 0, .float .f64 0, .float .f64 0, .float .f64 0] 43) := by show Blk v23 (w.heap.size + 1 + 1) _ _; rw [hv]; exact (Blk.drewN B_res.out _)
              replace B_z : Hid (Blk v23 (v4.heap.size) #[.float .f64 (z 0), .float .f64 (z 1), .float .f64 (z 2), .float .f64 (z 3), .float .f64 (z 4), .float .f64 (z 5)] 33) := by show Blk v23 (v4.heap.size) _ _; rw [hv]; exact (Blk.drewN B_z.out _)
              replace B_s : Hid (Blk v23 (v6.heap.size) #[.int .i64 0, .float .f64 ss, .float .f64 su] 58) := by show Blk v23 (v6.heap.size) _ _; rw [hv]; exact (Blk.drewN B_s.out _)
              replace HO : Hid (Below w.heap.size w v23) := by show Below w.heap.size w v23; rw [hv]; exact (below_drewN HO.out _)
              clear hv
              go_wp2
              go_roundw
              case rel => exact ⟨k + 1, _, _, by omega, rfl, by simp, ⟨F22.out, by rw [hD.out]; rfl⟩, B_f.out, B_a.out, B_res.out, HO.out⟩
              case measure => simp [intOf]; omega
end Go.Proofs.Ytbcidfmfkmeinaa
