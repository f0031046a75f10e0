/- Rays near the axis: the program. -/
import Derived.Test.YtnikgmjjkdhjbaaTs
import Derived.Test.YtnikgmjjkdhjbaaIv
import Derived.Handy
import Derived.Deep.RegionHeld3
import Derived.Deep.DeepCutAuto
import Derived.Deep.RegionLaw
namespace Go.Proofs.Ytnikgmjjkdhjbaa
open Go.RowKit
set_option linter.unusedVariables false
set_option linter.unusedSimpArgs false
theorem methb_gap : (Try.prog.info? 136).bind (fun i => (i.methods.find? (fun m => m.name == "loop.example/g00049/impl.behind")).map (fun m => (m.path.toList, m.func))) = some ([], some (127, false)) := by kernel_rfl
theorem nilb_gap (v : Value) (w : World) : (nilAhead 260 136 v "loop.example/g00049/impl.behind").run Try.prog w = .ok (some false) w := by
  obtain ⟨i, hi, h⟩ := Option.bind_eq_some_iff.1 methb_gap
  obtain ⟨m, hm, e⟩ := Option.map_eq_some_iff.1 h
  obtain ⟨e1, e2⟩ := Prod.mk.inj e
  have h2 := Try.underlying136
  unfold nilAhead
  simp [go_sem, typeInfo, hi, hm, e1, e2, followBlind, underlying, h2]
theorem mrunb_gap (v : Value) (w : World) : (method 260 136 v "loop.example/g00049/impl.behind").run Try.prog w = .ok (127, v) w := by
  obtain ⟨i, hi, h⟩ := Option.bind_eq_some_iff.1 methb_gap
  obtain ⟨m, hm, e⟩ := Option.map_eq_some_iff.1 h
  obtain ⟨e1, e2⟩ := Prod.mk.inj e
  unfold method
  simp [go_sem, typeInfo, hi, hm, e1, e2, follow_nil, recv_gap]
theorem methb_power : (Try.prog.info? 137).bind (fun i => (i.methods.find? (fun m => m.name == "loop.example/g00049/impl.behind")).map (fun m => (m.path.toList, m.func))) = some ([], some (129, false)) := by kernel_rfl
theorem nilb_power (v : Value) (w : World) : (nilAhead 260 137 v "loop.example/g00049/impl.behind").run Try.prog w = .ok (some false) w := by
  obtain ⟨i, hi, h⟩ := Option.bind_eq_some_iff.1 methb_power
  obtain ⟨m, hm, e⟩ := Option.map_eq_some_iff.1 h
  obtain ⟨e1, e2⟩ := Prod.mk.inj e
  have h2 := Try.underlying137
  unfold nilAhead
  simp [go_sem, typeInfo, hi, hm, e1, e2, followBlind, underlying, h2]
theorem mrunb_power (v : Value) (w : World) : (method 260 137 v "loop.example/g00049/impl.behind").run Try.prog w = .ok (129, v) w := by
  obtain ⟨i, hi, h⟩ := Option.bind_eq_some_iff.1 methb_power
  obtain ⟨m, hm, e⟩ := Option.map_eq_some_iff.1 h
  obtain ⟨e1, e2⟩ := Prod.mk.inj e
  unfold method
  simp [go_sem, typeInfo, hi, hm, e1, e2, follow_nil, recv_power]
theorem make0Ry (n : Nat) (hn : n ≤ 1000000000) (w : World) : (Instr.makeSlice 65 (.int .i64 0) (.int .i64 (n : Int))).run Try.prog w = .ok (.slice (some ⟨w.heap.size, 0, none⟩) 0 n) (w.alloc (.cells (madeCells #[.int .i64 0, .int .i64 0, .int .i64 0, .int .i64 0] (n * 4)) 70)) := by
  obtain ⟨i, hi, hzz⟩ := Option.map_eq_some_iff.1 infoRy
  simp only [Prod.mk.injEq] at hzz
  obtain ⟨hz, hs, hb⟩ := hzz
  have hr := run_make (P := Try.prog) w 65 70 i _ Try.underlying65 hi hz .i64 .i64 0 n (by omega) (by omega) (by rw [hb]; omega) (by omega)
  rw [hs] at hr
  simpa [Value.cells] using hr
theorem ry_all (r : Ry) : allB (fun i => if i = 0 then r.Y else r.U) 2 = r.ok := by
  show ((List.range 2).all _) = _
  simp [List.range, List.range.loop, Ry.ok]
set_option maxRecDepth 20000 in
set_option maxHeartbeats 3200000 in
theorem itrace_0 (b off n cap : Nat) (G : Nat → Pt) (r : Ry) (w : World) (hn : n ≤ 1000000000) (hc : RdP w b off n G) (h : ¬ lC G n = 0) : PX 37 #[.slice (some ⟨b, off, none⟩) n cap, .agg #[.int .i64 r.Y.n, .int .i64 r.Y.d, .int .i64 r.U.n, .int .i64 r.U.d]] w (lC G n) 0 (fun _ => r) := by
  unfold PX
  have A : Hid (∀ W, Below w.heap.size w W → Calls Try.prog 72 #[.slice (some ⟨b, off, none⟩) n cap] W fun e w' => e = .returned (.int .i64 (lC G n)) ∧ Below W.heap.size W w') := fun W hb => iparts b off n cap G W hn (hc.later hb (Nat.le_refl _))
  clear hc
  generalize lC G n = c at *
  have hcc : (c != 0) = true := by rw [bne_iff_ne]; exact h
  clear h
  obtain ⟨w2, hw2⟩ : ∃ W, W = (w.alloc (.cells #[.int .i64 r.Y.n, .int .i64 r.Y.d, .int .i64 r.U.n, .int .i64 r.U.d] 70)).alloc (.cells #[.int .i64 0, .slice none 0 0] 67) := ⟨_, rfl⟩
  have B2 : Hid (Below w.heap.size w w2) := by show Below _ _ _; rw [hw2]; exact ((Below.refl _ _).alloc (Nat.le_refl _) _).alloc (by simp) _
  have Y2 : Hid (Blk w2 w.heap.size #[.int .i64 r.Y.n, .int .i64 r.Y.d, .int .i64 r.U.n, .int .i64 r.U.d] 70) := by show Blk _ _ _ _; rw [hw2]; exact (Blk.new rfl).alloc _
  have R2 : Hid (Blk w2 (w.heap.size + 1) #[.int .i64 0, .slice none 0 0] 67) := by show Blk _ _ _ _; rw [hw2]; exact Blk.new (by simp)
  go_enter Try.func37, Try.ntmps37
  go_wp2_with fail
  rw [← hw2]
  refine (A.out _ B2.out).mono ?_
  rintro e w3 ⟨rfl, b3⟩
  have Y3 : Hid (Blk w3 w.heap.size #[.int .i64 r.Y.n, .int .i64 r.Y.d, .int .i64 r.U.n, .int .i64 r.U.d] 70) := Y2.out.old b3
  have R3 : Hid (Blk w3 (w.heap.size + 1) #[.int .i64 0, .slice none 0 0] 67) := R2.out.old b3
  have B3 : Hid (Below w.heap.size w w3) := B2.out.trans (b3.mono B2.out.size)
  clear b3 hw2 A R2 B2 Y2
  have c0 := R3.out.cell (j := 0) (v := .int .i64 0) rfl
  have c1 := R3.out.cell (j := 1) (v := .slice none 0 0) rfl
  have f0 := R3.out.frozen 0
  have f1 := R3.out.frozen 1
  go_wp2
  refine bodyPost_ret (v := Pl c (.slice none 0 0)) (by simp [results, Try.results37, go_sem, c0, c1]) rfl ⟨_, rfl, Or.inl ⟨rfl, rfl⟩, (B3.out.setCell (by simp) _).setCell (by simp) _⟩
set_option maxRecDepth 20000 in
set_option maxHeartbeats 3200000 in
theorem itrace_1 (b off n cap : Nat) (G : Nat → Pt) (r : Ry) (w : World) (hn : n ≤ 1000000000) (hc : RdP w b off n G) (h : lC G n = 0) (hr : r.ok = false) : PX 37 #[.slice (some ⟨b, off, none⟩) n cap, .agg #[.int .i64 r.Y.n, .int .i64 r.Y.d, .int .i64 r.U.n, .int .i64 r.U.d]] w 1 0 (fun _ => r) := by
  unfold PX
  have A : Hid (∀ W, Below w.heap.size w W → Calls Try.prog 72 #[.slice (some ⟨b, off, none⟩) n cap] W fun e w' => e = .returned (.int .i64 0) ∧ Below W.heap.size W w') := fun W hb => by have := iparts b off n cap G W hn (hc.later hb (Nat.le_refl _)); rw [h] at this; exact this
  have HOK : Hid (r.ok = false) := hr
  clear hc h hr
  obtain ⟨w2, hw2⟩ : ∃ W, W = (w.alloc (.cells #[.int .i64 r.Y.n, .int .i64 r.Y.d, .int .i64 r.U.n, .int .i64 r.U.d] 70)).alloc (.cells #[.int .i64 0, .slice none 0 0] 67) := ⟨_, rfl⟩
  have B2 : Hid (Below w.heap.size w w2) := by show Below _ _ _; rw [hw2]; exact ((Below.refl _ _).alloc (Nat.le_refl _) _).alloc (by simp) _
  have Y2 : Hid (Blk w2 w.heap.size #[.int .i64 r.Y.n, .int .i64 r.Y.d, .int .i64 r.U.n, .int .i64 r.U.d] 70) := by show Blk _ _ _ _; rw [hw2]; exact (Blk.new rfl).alloc _
  have R2 : Hid (Blk w2 (w.heap.size + 1) #[.int .i64 0, .slice none 0 0] 67) := by show Blk _ _ _ _; rw [hw2]; exact Blk.new (by simp)
  go_enter Try.func37, Try.ntmps37
  go_wp2_with fail
  rw [← hw2]
  refine (A.out _ B2.out).mono ?_
  rintro e w3 ⟨rfl, b3⟩
  have Y3 : Hid (Blk w3 w.heap.size #[.int .i64 r.Y.n, .int .i64 r.Y.d, .int .i64 r.U.n, .int .i64 r.U.d] 70) := Y2.out.old b3
  have R3 : Hid (Blk w3 (w.heap.size + 1) #[.int .i64 0, .slice none 0 0] 67) := R2.out.old b3
  have B3 : Hid (Below w.heap.size w w3) := B2.out.trans (b3.mono B2.out.size)
  clear b3 hw2 A R2 B2 Y2
  have y0 := Y3.out.cell (j := 0) (v := .int .i64 r.Y.n) rfl
  have y1 := Y3.out.cell (j := 1) (v := .int .i64 r.Y.d) rfl
  have y2 := Y3.out.cell (j := 2) (v := .int .i64 r.U.n) rfl
  have y3 := Y3.out.cell (j := 3) (v := .int .i64 r.U.d) rfl
  have AN : Hid (∀ W : World, Calls Try.prog 82 #[.slice (some ⟨W.heap.size, 0, none⟩) 2 2] (W.alloc (.cells #[.int .i64 r.Y.n, .int .i64 r.Y.d, .int .i64 r.U.n, .int .i64 r.U.d] 25)) fun e w' => e = .returned (.bool (!r.ok)) ∧ Below (W.alloc (.cells #[.int .i64 r.Y.n, .int .i64 r.Y.d, .int .i64 r.U.n, .int .i64 r.U.d] 25)).heap.size (W.alloc (.cells #[.int .i64 r.Y.n, .int .i64 r.Y.d, .int .i64 r.U.n, .int .i64 r.U.d] 25)) w') := fun W => by
    have := anyf W.heap.size 2 2 (fun i => if i = 0 then r.Y else r.U) (W.alloc (.cells #[.int .i64 r.Y.n, .int .i64 r.Y.d, .int .i64 r.U.n, .int .i64 r.U.d] 25)) (by decide) (fun i hi => by
      have hB : Blk (W.alloc (.cells #[.int .i64 r.Y.n, .int .i64 r.Y.d, .int .i64 r.U.n, .int .i64 r.U.d] 25)) W.heap.size #[.int .i64 r.Y.n, .int .i64 r.Y.d, .int .i64 r.U.n, .int .i64 r.U.d] 25 := Blk.new rfl
      match i, hi with
      | 0, _ => exact ⟨hB.cell (j := 0) rfl, hB.cell (j := 1) rfl⟩
      | 1, _ => exact ⟨hB.cell (j := 2) rfl, hB.cell (j := 3) rfl⟩)
    rw [ry_all] at this
    exact this
  rw [HOK.out] at AN
  go_wp2_with fail
  refine (AN.out w3).mono ?_
  rintro e w4 ⟨rfl, b4'⟩
  have b4 : Below w3.heap.size w3 w4 := Below.trans ((Below.refl _ _).alloc (Nat.le_refl _) _) (b4'.mono (by simp))
  have Y4 : Hid (Blk w4 w.heap.size #[.int .i64 r.Y.n, .int .i64 r.Y.d, .int .i64 r.U.n, .int .i64 r.U.d] 70) := Y3.out.old b4
  have R4 : Hid (Blk w4 (w.heap.size + 1) #[.int .i64 0, .slice none 0 0] 67) := R3.out.old b4
  have B4 : Hid (Below w.heap.size w w4) := B3.out.trans (b4.mono B3.out.size)
  clear b4 b4' R3 B3 Y3 y0 y1 y2 y3 AN
  have c0 := R4.out.cell (j := 0) (v := .int .i64 0) rfl
  have c1 := R4.out.cell (j := 1) (v := .slice none 0 0) rfl
  have f0 := R4.out.frozen 0
  have f1 := R4.out.frozen 1
  go_wp2
  refine bodyPost_ret (v := Pl 1 (.slice none 0 0)) (by simp [results, Try.results37, go_sem, c0, c1]) rfl ⟨_, rfl, Or.inl ⟨rfl, rfl⟩, (B4.out.setCell (by simp) _).setCell (by simp) _⟩
set_option maxRecDepth 20000 in
set_option maxHeartbeats 12800000 in
theorem itrace_2 (b off n cap : Nat) (G : Nat → Pt) (r : Ry) (w : World) (hn : n ≤ 1000000000) (hc : RdP w b off n G) (h : lC G n = 0) (hr : r.ok = true) : PX 37 #[.slice (some ⟨b, off, none⟩) n cap, .agg #[.int .i64 r.Y.n, .int .i64 r.Y.d, .int .i64 r.U.n, .int .i64 r.U.d]] w (tcO (trB G r n)) (tnO (trB G r n) n) (tr G r) := by
  unfold PX
  have A : Hid (∀ W, Below w.heap.size w W → Calls Try.prog 72 #[.slice (some ⟨b, off, none⟩) n cap] W fun e w' => e = .returned (.int .i64 0) ∧ Below W.heap.size W w') := fun W hb => by have := iparts b off n cap G W hn (hc.later hb (Nat.le_refl _)); rw [h] at this; exact this
  have HC : Hid (RdP w b off n G) := hc
  have HOK : Hid (r.ok = true) := hr
  have h200 : n ≤ 200 := by
    unfold lC at h
    by_cases e : 200 < n
    · rw [if_pos e] at h; omega
    · omega
  clear hc h hr
  obtain ⟨w2, hw2⟩ : ∃ W, W = (w.alloc (.cells #[.int .i64 r.Y.n, .int .i64 r.Y.d, .int .i64 r.U.n, .int .i64 r.U.d] 70)).alloc (.cells #[.int .i64 0, .slice none 0 0] 67) := ⟨_, rfl⟩
  have B2 : Hid (Below w.heap.size w w2) := by show Below _ _ _; rw [hw2]; exact ((Below.refl _ _).alloc (Nat.le_refl _) _).alloc (by simp) _
  have Y2 : Hid (Blk w2 w.heap.size #[.int .i64 r.Y.n, .int .i64 r.Y.d, .int .i64 r.U.n, .int .i64 r.U.d] 70) := by show Blk _ _ _ _; rw [hw2]; exact (Blk.new rfl).alloc _
  have R2 : Hid (Blk w2 (w.heap.size + 1) #[.int .i64 0, .slice none 0 0] 67) := by show Blk _ _ _ _; rw [hw2]; exact Blk.new (by simp)
  go_enter Try.func37, Try.ntmps37
  go_wp2_with fail
  rw [← hw2]
  refine (A.out _ B2.out).mono ?_
  rintro e w3 ⟨rfl, b3⟩
  have Y3 : Hid (Blk w3 w.heap.size #[.int .i64 r.Y.n, .int .i64 r.Y.d, .int .i64 r.U.n, .int .i64 r.U.d] 70) := Y2.out.old b3
  have R3 : Hid (Blk w3 (w.heap.size + 1) #[.int .i64 0, .slice none 0 0] 67) := R2.out.old b3
  have B3 : Hid (Below w.heap.size w w3) := B2.out.trans (b3.mono B2.out.size)
  clear b3 hw2 A R2 B2 Y2
  have y0 := Y3.out.cell (j := 0) (v := .int .i64 r.Y.n) rfl
  have y1 := Y3.out.cell (j := 1) (v := .int .i64 r.Y.d) rfl
  have y2 := Y3.out.cell (j := 2) (v := .int .i64 r.U.n) rfl
  have y3 := Y3.out.cell (j := 3) (v := .int .i64 r.U.d) rfl
  have AN : Hid (∀ W : World, Calls Try.prog 82 #[.slice (some ⟨W.heap.size, 0, none⟩) 2 2] (W.alloc (.cells #[.int .i64 r.Y.n, .int .i64 r.Y.d, .int .i64 r.U.n, .int .i64 r.U.d] 25)) fun e w' => e = .returned (.bool (!r.ok)) ∧ Below (W.alloc (.cells #[.int .i64 r.Y.n, .int .i64 r.Y.d, .int .i64 r.U.n, .int .i64 r.U.d] 25)).heap.size (W.alloc (.cells #[.int .i64 r.Y.n, .int .i64 r.Y.d, .int .i64 r.U.n, .int .i64 r.U.d] 25)) w') := fun W => by
    have := anyf W.heap.size 2 2 (fun i => if i = 0 then r.Y else r.U) (W.alloc (.cells #[.int .i64 r.Y.n, .int .i64 r.Y.d, .int .i64 r.U.n, .int .i64 r.U.d] 25)) (by decide) (fun i hi => by
      have hB : Blk (W.alloc (.cells #[.int .i64 r.Y.n, .int .i64 r.Y.d, .int .i64 r.U.n, .int .i64 r.U.d] 25)) W.heap.size #[.int .i64 r.Y.n, .int .i64 r.Y.d, .int .i64 r.U.n, .int .i64 r.U.d] 25 := Blk.new rfl
      match i, hi with
      | 0, _ => exact ⟨hB.cell (j := 0) rfl, hB.cell (j := 1) rfl⟩
      | 1, _ => exact ⟨hB.cell (j := 2) rfl, hB.cell (j := 3) rfl⟩)
    rw [ry_all] at this
    exact this
  rw [HOK.out] at AN
  go_wp2_with fail
  refine (AN.out w3).mono ?_
  rintro e w4 ⟨rfl, b4'⟩
  have b4 : Below w3.heap.size w3 w4 := Below.trans ((Below.refl _ _).alloc (Nat.le_refl _) _) (b4'.mono (by simp))
  have Y4 : Hid (Blk w4 w.heap.size #[.int .i64 r.Y.n, .int .i64 r.Y.d, .int .i64 r.U.n, .int .i64 r.U.d] 70) := Y3.out.old b4
  have R4 : Hid (Blk w4 (w.heap.size + 1) #[.int .i64 0, .slice none 0 0] 67) := R3.out.old b4
  have B4 : Hid (Below w.heap.size w w4) := B3.out.trans (b4.mono B3.out.size)
  clear b4 b4' R3 B3 Y3 y0 y1 y2 y3 AN
  have hmk := make0Ry (n + 1) (by omega)
  rw [show ((n + 1 : Nat) : Int) = (n : Int) + 1 by omega] at hmk
  have hmk4 := hmk (w4.alloc (.cells #[.bool false] 101))
  go_upto_region 8 with fail
  obtain ⟨w5, hw5⟩ : ∃ W, W = (w4.alloc (.cells #[.bool false] 101)).alloc (.cells (madeCells #[.int .i64 0, .int .i64 0, .int .i64 0, .int .i64 0] ((n + 1) * 4)) 70) := ⟨_, rfl⟩
  obtain ⟨rb, hrb⟩ : ∃ x, x = w4.heap.size := ⟨_, rfl⟩
  obtain ⟨BS, hBS⟩ : ∃ x, x = w4.heap.size + 1 := ⟨_, rfl⟩
  have hs4 : (w4.alloc (.cells #[.bool false] 101)).heap.size = BS := by rw [hBS]; simp
  have O5 : Hid (OwR w5 BS (.slice (some ⟨BS, 0, none⟩) 0 (n + 1)) 0 (tr G r)) := by show World.ownsRow _ _ _ _ _ _ _; rw [hw5]; have h9 := owns_made (w4.alloc (.cells #[.bool false] 101)) #[.int .i64 0, .int .i64 0, .int .i64 0, .int .i64 0] (n + 1) 4 70 (by unfold maxLen; omega); rw [hs4] at h9; exact h9
  have Y5 : Hid (Blk w5 w.heap.size #[.int .i64 r.Y.n, .int .i64 r.Y.d, .int .i64 r.U.n, .int .i64 r.U.d] 70) := by show Blk _ _ _ _; rw [hw5]; exact (Y4.out.alloc _).alloc _
  have R5 : Hid (Blk w5 (w.heap.size + 1) #[.int .i64 0, .slice none 0 0] 67) := by show Blk _ _ _ _; rw [hw5]; exact (R4.out.alloc _).alloc _
  have F5 : Hid (flag rb (!trB G r 0) w5) := by show flag _ _ _; rw [hw5, hrb]; exact flag.alloc (show flag _ _ _ from heap_alloc_new _ _) _
  have B5 : Hid (Below w.heap.size w w5) := by show Below _ _ _; rw [hw5]; exact (B4.out.alloc B4.out.size _).alloc (by have := B4.out.size; simp; omega) _
  have HB : Hid (w.heap.size + 1 < rb ∧ rb < BS) := by rw [hrb, hBS]; exact ⟨R4.out.lt, by omega⟩
  have Z5 : Hid (BS ≤ w5.heap.size) := by show _ ≤ _; rw [hw5, hBS]; simp
  rw [← hBS, ← hw5, ← hrb]
  clear hmk hmk4 hw5 hrb hBS hs4 Y4 R4 B4
  have y0 := Y5.out.cell (j := 0) (v := .int .i64 r.Y.n) rfl
  have y1 := Y5.out.cell (j := 1) (v := .int .i64 r.Y.d) rfl
  have y2 := Y5.out.cell (j := 2) (v := .int .i64 r.U.n) rfl
  have y3 := Y5.out.cell (j := 3) (v := .int .i64 r.U.d) rfl
  go_wp2_with (first | (at_builtin; refine push_law rfl (.tmp 28) (.tmp 30) 65 rfl 70 (.agg #[.int .i64 0, .int .i64 0, .int .i64 0, .int .i64 0]) 4 32 Try.underlying65 infoRy rfl (by decide) (by decide) w5 [.int .i64 r.Y.n, .int .i64 r.Y.d, .int .i64 r.U.n, .int .i64 r.U.d] rfl (by intro u hu; simp at hu; rcases hu with rfl | rfl | rfl | rfl <;> rfl) BS (.slice (some ⟨BS, 0, none⟩) 0 (n + 1)) 0 _ rfl O5.out 1 rfl (by omega) Z5.out ?_; intro v1 w6 own6 grow6 _))
  have b6 : Below BS w5 w6 := push_below O5.out grow6 (Below.refl _ _) Z5.out
  have O6 : Hid (OwR w6 BS v1 (0 + 1) (tr G r)) := by show World.ownsRow _ _ _ _ _ _ _; rw [flat_succ]; exact own6
  have Y6 : Hid (Blk w6 w.heap.size #[.int .i64 r.Y.n, .int .i64 r.Y.d, .int .i64 r.U.n, .int .i64 r.U.d] 70) := (b6.block _ (by have := HB.out; omega)).trans Y5.out
  have R6 : Hid (Blk w6 (w.heap.size + 1) #[.int .i64 0, .slice none 0 0] 67) := (b6.block _ (by have := HB.out; omega)).trans R5.out
  have F6 : Hid (flag rb (!trB G r 0) w6) := F5.out.below b6 HB.out.2
  have B6 : Hid (Below w.heap.size w w6) := B5.out.trans (b6.mono (by have := HB.out; omega))
  have HSZ : Hid (∀ (W : World) {v : Value} {k : Nat}, OwR W BS v (k + 1) (tr G r) → BS ≤ W.heap.size) := fun W v k h => by
    obtain ⟨h0, h | ⟨g, cap, cur, hv, hg, hh, q⟩⟩ := h
    · have := flat_len (F := fun i => rrow (tr G r i)) (m := 4) (fun i => rfl) (k + 1)
      rw [h.2] at this
      simp at this
      omega
    · have := (Array.getElem?_eq_some_iff.1 hh).1
      omega
  clear own6 grow6 b6 y0 y1 y2 y3 O5 Y5 R5 F5 B5 Z5
  go_wp2_with fail
  go_loopw [7, 34] (fun v i wr => ∃ k : Nat, k ≤ n ∧ i = .int .i64 k ∧ Hid (Blk wr w.heap.size #[.int .i64 (tr G r k).Y.n, .int .i64 (tr G r k).Y.d, .int .i64 (tr G r k).U.n, .int .i64 (tr G r k).U.d] 70) ∧ Hid (flag rb (!trB G r k) wr) ∧ Hid (Blk wr (w.heap.size + 1) #[.int .i64 0, .slice none 0 0] 67) ∧ Hid (OwR wr BS v (k + 1) (tr G r)) ∧ Hid (Below w.heap.size w wr)) (fun _ i _ => n - (intOf i).toNat)
  case atStart => exact ⟨0, Nat.zero_le _, rfl, Y6, F6, R6, O6, B6⟩
  case round =>
    obtain ⟨k, hk, rfl, HY, HF, HR, HW, HO⟩ := hrel
    clear Y6 F6 R6 O6 B6
    obtain ⟨v, hv⟩ : ∃ v, v = u7 := ⟨_, rfl⟩
    rw [← hv] at HW ⊢
    clear hv
    by_cases hkn : k < n
    · obtain ⟨s, hs⟩ : ∃ s, s = tr G r k := ⟨_, rfl⟩
      obtain ⟨p, hp⟩ : ∃ p, p = G k := ⟨_, rfl⟩
      have HP : Hid (∀ W, Below w.heap.size w W → W.cell? ⟨b, off + k * 3, none⟩ = some (.int .i64 p.k) ∧ W.cell? ⟨b, off + k * 3 + 1, none⟩ = some (.int .i64 p.x.n) ∧ W.cell? ⟨b, off + k * 3 + 2, none⟩ = some (.int .i64 p.x.d)) := fun W hb => by rw [hp]; exact RdP.at HC.out hb hkn
      have HN : Hid (tr G r (k + 1) = trG p s ∧ trB G r (k + 1) = (trB G r k && trK p s)) := by rw [hs, hp]; exact ⟨rfl, rfl⟩
      rw [← hs] at HY
      clear hs hp HC
      by_cases hk1 : p.k = 1
      · have hkb : (p.k == 1) = true := by simpa using hk1
        replace hk1 : Hid (p.k = 1) := hk1
        have hnil := nilb_gap
        have hmeth := mrunb_gap
        obtain ⟨p0, p1, p2⟩ := HP.out wr HO.out
        go_upto_region 12 with fail
        obtain ⟨Z, hZ⟩ : ∃ Z, Z = wr.alloc (.cells #[.int .i64 p.k, .int .i64 p.x.n, .int .i64 p.x.d] 34) := ⟨_, rfl⟩
        rw [← hZ]
        have BZ : Hid (Blk Z wr.heap.size #[.int .i64 p.k, .int .i64 p.x.n, .int .i64 p.x.d] 34) := by show Blk _ _ _ _; rw [hZ]; exact Blk.new rfl
        have QZ : Hid (Below wr.heap.size wr Z) := by show Below _ _ _; rw [hZ]; exact (Below.refl _ _).alloc (Nat.le_refl _) _
        clear hZ p0 p1 p2
        have FZ : Hid (flag rb (!trB G r k) Z) := HF.out.below QZ.out HF.out.lt
        have YZ : Hid (Blk Z w.heap.size #[.int .i64 s.Y.n, .int .i64 s.Y.d, .int .i64 s.U.n, .int .i64 s.U.d] 70) := HY.out.old QZ.out
        have e0 := BZ.out.cell (j := 0) (v := .int .i64 p.k) rfl
        have e1 := BZ.out.cell (j := 1) (v := .int .i64 p.x.n) rfl
        have e2 := BZ.out.cell (j := 2) (v := .int .i64 p.x.d) rfl
        have c0 := YZ.out.cell (j := 0) (v := .int .i64 s.Y.n) rfl
        have c1 := YZ.out.cell (j := 1) (v := .int .i64 s.Y.d) rfl
        have c2 := YZ.out.cell (j := 2) (v := .int .i64 s.U.n) rfl
        have c3 := YZ.out.cell (j := 3) (v := .int .i64 s.U.d) rfl
        obtain ⟨T, hT⟩ : ∃ T, T = trG p s := ⟨_, rfl⟩
        go_cut [3] from 38 to 41 (fun q wx => q = .pointer (some ⟨w.heap.size, 0, none⟩) ∧ Hid (Blk wx w.heap.size #[.int .i64 T.Y.n, .int .i64 T.Y.d, .int .i64 T.U.n, .int .i64 T.U.d] 70) ∧ Hid (flag rb (!trB G r (k + 1)) wx) ∧ Hid (Blk wx (w.heap.size + 1) #[.int .i64 0, .slice none 0 0] 67) ∧ Hid (OwR wx BS v (k + 1) (tr G r)) ∧ Hid (Below w.heap.size w wx))
        case first =>
          go_region_law (first | (go_simp; go_at_call 74; refine (ielem_g p.k p.x _ hkb).mono ?_; rintro e a1 ⟨rfl, hb1⟩; have k1 : Below Z.heap.size Z a1 := ((Below.refl _ _).drew).trans hb1; have u0 : a1.cell? ⟨w.heap.size, 0, none⟩ = some (.int .i64 s.Y.n) := (YZ.out.old k1).cell (j := 0) rfl; have u1 : a1.cell? ⟨w.heap.size, 1, none⟩ = some (.int .i64 s.Y.d) := (YZ.out.old k1).cell (j := 1) rfl; have u2 : a1.cell? ⟨w.heap.size, 2, none⟩ = some (.int .i64 s.U.n) := (YZ.out.old k1).cell (j := 2) rfl; have u3 : a1.cell? ⟨w.heap.size, 3, none⟩ = some (.int .i64 s.U.d) := (YZ.out.old k1).cell (j := 3) rfl) | (go_simp; go_at_call 127; refine (igap p.x s rb (!trB G r k) _ (FZ.out.below k1 FZ.out.lt)).mono ?_; rintro e a2 ⟨rfl, hb2, hF2⟩; have Y2' : Hid (Blk a2 w.heap.size #[.int .i64 s.Y.n, .int .i64 s.Y.d, .int .i64 s.U.n, .int .i64 s.U.d] 70) := But.blk hb2 (YZ.out.old k1) (YZ.out.old k1).lt (by have := HB.out.1; omega); have t0 : a2.cell? ⟨w.heap.size, 0, none⟩ = some (.int .i64 s.Y.n) := Y2'.out.cell (j := 0) rfl; have tf0 := Y2'.out.frozen 0; have t1 : a2.cell? ⟨w.heap.size, 1, none⟩ = some (.int .i64 s.Y.d) := Y2'.out.cell (j := 1) rfl; have tf1 := Y2'.out.frozen 1; have t2 : a2.cell? ⟨w.heap.size, 2, none⟩ = some (.int .i64 s.U.n) := Y2'.out.cell (j := 2) rfl; have tf2 := Y2'.out.frozen 2; have t3 : a2.cell? ⟨w.heap.size, 3, none⟩ = some (.int .i64 s.U.d) := Y2'.out.cell (j := 3) rfl; have tf3 := Y2'.out.frozen 3))
          all_goals
            have hTe : T = ⟨addQ s.Y (mulQ p.x s.U), s.U⟩ := by rw [hT]; unfold trG; rw [if_pos hk1.out]
            have Q1 : Below wr.heap.size wr a1 := QZ.out.trans (k1.mono QZ.out.size)
            have Q2 : But rb wr.heap.size wr a2 := (But.of_below Q1).trans (hb2.mono Q1.size)
            have P1 : Hid (Blk ((((a2.setCell ⟨w.heap.size, 0, none⟩ (.int .i64 (addQ s.Y (mulQ p.x s.U)).n)).setCell ⟨w.heap.size, 1, none⟩ (.int .i64 (addQ s.Y (mulQ p.x s.U)).d)).setCell ⟨w.heap.size, 2, none⟩ (.int .i64 s.U.n)).setCell ⟨w.heap.size, 3, none⟩ (.int .i64 s.U.d)) w.heap.size #[.int .i64 (addQ s.Y (mulQ p.x s.U)).n, .int .i64 (addQ s.Y (mulQ p.x s.U)).d, .int .i64 s.U.n, .int .i64 s.U.d] 70) := (((Y2'.out.set 0 _).set 1 _).set 2 _).set 3 _
            have P2 : Hid (flag rb (!trB G r (k + 1)) ((((a2.setCell ⟨w.heap.size, 0, none⟩ (.int .i64 (addQ s.Y (mulQ p.x s.U)).n)).setCell ⟨w.heap.size, 1, none⟩ (.int .i64 (addQ s.Y (mulQ p.x s.U)).d)).setCell ⟨w.heap.size, 2, none⟩ (.int .i64 s.U.n)).setCell ⟨w.heap.size, 3, none⟩ (.int .i64 s.U.d))) := by
              have e : (((!trB G r k) || !mulK p.x s.U) || !addK s.Y (mulQ p.x s.U)) = !trB G r (k + 1) := by rw [HN.out.2]; unfold trK; rw [if_pos hk1.out]; cases trB G r k <;> cases mulK p.x s.U <;> simp
              rw [e] at hF2
              exact (((hF2.setOther (by have := HB.out.1; simp; omega) _).setOther (by have := HB.out.1; simp; omega) _).setOther (by have := HB.out.1; simp; omega) _).setOther (by have := HB.out.1; simp; omega) _
            have P3 : Hid (Blk ((((a2.setCell ⟨w.heap.size, 0, none⟩ (.int .i64 (addQ s.Y (mulQ p.x s.U)).n)).setCell ⟨w.heap.size, 1, none⟩ (.int .i64 (addQ s.Y (mulQ p.x s.U)).d)).setCell ⟨w.heap.size, 2, none⟩ (.int .i64 s.U.n)).setCell ⟨w.heap.size, 3, none⟩ (.int .i64 s.U.d)) (w.heap.size + 1) #[.int .i64 0, .slice none 0 0] 67) := ((((But.blk Q2 HR.out HR.out.lt (by have := HB.out.1; omega)).setOther (by simp) _).setOther (by simp) _).setOther (by simp) _).setOther (by simp) _
            have P4 : Hid (OwR ((((a2.setCell ⟨w.heap.size, 0, none⟩ (.int .i64 (addQ s.Y (mulQ p.x s.U)).n)).setCell ⟨w.heap.size, 1, none⟩ (.int .i64 (addQ s.Y (mulQ p.x s.U)).d)).setCell ⟨w.heap.size, 2, none⟩ (.int .i64 s.U.n)).setCell ⟨w.heap.size, 3, none⟩ (.int .i64 s.U.d)) BS v (k + 1) (tr G r)) := ((((HW.out.grew rb Q2 HB.out.2).set (by have := HB.out; omega)).set (by have := HB.out; omega)).set (by have := HB.out; omega)).set (by have := HB.out; omega)
            have P5 : Hid (Below w.heap.size w ((((a2.setCell ⟨w.heap.size, 0, none⟩ (.int .i64 (addQ s.Y (mulQ p.x s.U)).n)).setCell ⟨w.heap.size, 1, none⟩ (.int .i64 (addQ s.Y (mulQ p.x s.U)).d)).setCell ⟨w.heap.size, 2, none⟩ (.int .i64 s.U.n)).setCell ⟨w.heap.size, 3, none⟩ (.int .i64 s.U.d))) := ((((HO.out.trans ((Q2.mono HO.out.size).below (by have := HB.out.1; omega))).setCell (by simp) _).setCell (by simp) _).setCell (by simp) _).setCell (by simp) _
            go_wp2_with fail
            go_meet
            case rel => exact ⟨rfl, by rw [hTe]; exact P1, P2, P3, P4, P5⟩
        case rest =>
          obtain ⟨rfl, M1, M2, M3, M4, M5⟩ := hcut
          obtain ⟨Y5, h5⟩ : ∃ v, v = wc := ⟨_, rfl⟩
          subst h5
          have hTS : Hid (tr G r (k + 1) = T) := by rw [hT]; exact HN.out.1
          have hsz : Hid (BS ≤ Y5.heap.size) := by show _ ≤ _; have := HB.out; have := M2.out.lt; have := M5.out.size; have h7 := HSZ.out Y5 M4.out; omega
          clear e0 e1 e2 c0 c1 c2 c3 BZ QZ FZ YZ hT HY HF HR HW HO HN hnil hmeth
          have c0 := M1.out.cell (j := 0) (v := .int .i64 T.Y.n) rfl
          have c1 := M1.out.cell (j := 1) (v := .int .i64 T.Y.d) rfl
          have c2 := M1.out.cell (j := 2) (v := .int .i64 T.U.n) rfl
          have c3 := M1.out.cell (j := 3) (v := .int .i64 T.U.d) rfl
          go_wp2_with (first | (at_builtin; refine push_law rfl (.tmp 42) (.tmp 44) 65 rfl 70 (.agg #[.int .i64 0, .int .i64 0, .int .i64 0, .int .i64 0]) 4 32 Try.underlying65 infoRy rfl (by decide) (by decide) Y5 [.int .i64 T.Y.n, .int .i64 T.Y.d, .int .i64 T.U.n, .int .i64 T.U.d] rfl (by intro u hu; simp at hu; rcases hu with rfl | rfl | rfl | rfl <;> rfl) BS v (k + 1) _ rfl M4.out 1 rfl (by omega) hsz.out ?_; intro v1 y7 own7 grow7 _))
          have b7 : Below BS Y5 y7 := push_below M4.out grow7 (Below.refl _ _) hsz.out
          have L1 : Hid (Blk y7 w.heap.size #[.int .i64 (tr G r (k + 1)).Y.n, .int .i64 (tr G r (k + 1)).Y.d, .int .i64 (tr G r (k + 1)).U.n, .int .i64 (tr G r (k + 1)).U.d] 70) := by rw [hTS.out]; exact (b7.block _ (by have := HB.out; omega)).trans M1.out
          have L2 : Hid (Blk y7 (w.heap.size + 1) #[.int .i64 0, .slice none 0 0] 67) := (b7.block _ (by have := HB.out; omega)).trans M3.out
          have L3 : Hid (OwR y7 BS v1 (k + 1 + 1) (tr G r)) := by show World.ownsRow _ _ _ _ _ _ _; rw [flat_succ]; rw [hTS.out]; exact own7
          have L4 : Hid (Below w.heap.size w y7) := M5.out.trans (b7.mono (by have := HB.out; omega))
          have L5 : Hid (flag rb (!trB G r (k + 1)) y7) := M2.out.below b7 HB.out.2
          clear own7 grow7 b7 M1 M2 M3 M4 M5 c0 c1 c2 c3
          go_wp2
          go_roundw
          case rel => exact ⟨k + 1, by omega, by simp, L1, L5, L2, L3, L4⟩
          case measure => simp [intOf]; omega
      · have hkb : (p.k == 1) = false := by simpa using hk1
        replace hk1 : Hid (¬ p.k = 1) := hk1
        have hnil := nilb_power
        have hmeth := mrunb_power
        obtain ⟨p0, p1, p2⟩ := HP.out wr HO.out
        go_upto_region 12 with fail
        obtain ⟨Z, hZ⟩ : ∃ Z, Z = wr.alloc (.cells #[.int .i64 p.k, .int .i64 p.x.n, .int .i64 p.x.d] 34) := ⟨_, rfl⟩
        rw [← hZ]
        have BZ : Hid (Blk Z wr.heap.size #[.int .i64 p.k, .int .i64 p.x.n, .int .i64 p.x.d] 34) := by show Blk _ _ _ _; rw [hZ]; exact Blk.new rfl
        have QZ : Hid (Below wr.heap.size wr Z) := by show Below _ _ _; rw [hZ]; exact (Below.refl _ _).alloc (Nat.le_refl _) _
        clear hZ p0 p1 p2
        have FZ : Hid (flag rb (!trB G r k) Z) := HF.out.below QZ.out HF.out.lt
        have YZ : Hid (Blk Z w.heap.size #[.int .i64 s.Y.n, .int .i64 s.Y.d, .int .i64 s.U.n, .int .i64 s.U.d] 70) := HY.out.old QZ.out
        have e0 := BZ.out.cell (j := 0) (v := .int .i64 p.k) rfl
        have e1 := BZ.out.cell (j := 1) (v := .int .i64 p.x.n) rfl
        have e2 := BZ.out.cell (j := 2) (v := .int .i64 p.x.d) rfl
        have c0 := YZ.out.cell (j := 0) (v := .int .i64 s.Y.n) rfl
        have c1 := YZ.out.cell (j := 1) (v := .int .i64 s.Y.d) rfl
        have c2 := YZ.out.cell (j := 2) (v := .int .i64 s.U.n) rfl
        have c3 := YZ.out.cell (j := 3) (v := .int .i64 s.U.d) rfl
        obtain ⟨T, hT⟩ : ∃ T, T = trG p s := ⟨_, rfl⟩
        go_cut [3] from 38 to 41 (fun q wx => q = .pointer (some ⟨w.heap.size, 0, none⟩) ∧ Hid (Blk wx w.heap.size #[.int .i64 T.Y.n, .int .i64 T.Y.d, .int .i64 T.U.n, .int .i64 T.U.d] 70) ∧ Hid (flag rb (!trB G r (k + 1)) wx) ∧ Hid (Blk wx (w.heap.size + 1) #[.int .i64 0, .slice none 0 0] 67) ∧ Hid (OwR wx BS v (k + 1) (tr G r)) ∧ Hid (Below w.heap.size w wx))
        case first =>
          go_region_law (first | (go_simp; go_at_call 74; refine (ielem_p p.k p.x _ hkb).mono ?_; rintro e a1 ⟨rfl, hb1⟩; have k1 : Below Z.heap.size Z a1 := ((Below.refl _ _).drew).trans hb1; have u0 : a1.cell? ⟨w.heap.size, 0, none⟩ = some (.int .i64 s.Y.n) := (YZ.out.old k1).cell (j := 0) rfl; have u1 : a1.cell? ⟨w.heap.size, 1, none⟩ = some (.int .i64 s.Y.d) := (YZ.out.old k1).cell (j := 1) rfl; have u2 : a1.cell? ⟨w.heap.size, 2, none⟩ = some (.int .i64 s.U.n) := (YZ.out.old k1).cell (j := 2) rfl; have u3 : a1.cell? ⟨w.heap.size, 3, none⟩ = some (.int .i64 s.U.d) := (YZ.out.old k1).cell (j := 3) rfl) | (go_simp; go_at_call 129; refine (ipow p.x s rb (!trB G r k) _ (FZ.out.below k1 FZ.out.lt)).mono ?_; rintro e a2 ⟨rfl, hb2, hF2⟩; have Y2' : Hid (Blk a2 w.heap.size #[.int .i64 s.Y.n, .int .i64 s.Y.d, .int .i64 s.U.n, .int .i64 s.U.d] 70) := But.blk hb2 (YZ.out.old k1) (YZ.out.old k1).lt (by have := HB.out.1; omega); have t0 : a2.cell? ⟨w.heap.size, 0, none⟩ = some (.int .i64 s.Y.n) := Y2'.out.cell (j := 0) rfl; have tf0 := Y2'.out.frozen 0; have t1 : a2.cell? ⟨w.heap.size, 1, none⟩ = some (.int .i64 s.Y.d) := Y2'.out.cell (j := 1) rfl; have tf1 := Y2'.out.frozen 1; have t2 : a2.cell? ⟨w.heap.size, 2, none⟩ = some (.int .i64 s.U.n) := Y2'.out.cell (j := 2) rfl; have tf2 := Y2'.out.frozen 2; have t3 : a2.cell? ⟨w.heap.size, 3, none⟩ = some (.int .i64 s.U.d) := Y2'.out.cell (j := 3) rfl; have tf3 := Y2'.out.frozen 3))
          all_goals
            have hTe : T = ⟨s.Y, subQ s.U (mulQ p.x s.Y)⟩ := by rw [hT]; unfold trG; rw [if_neg hk1.out]
            have Q1 : Below wr.heap.size wr a1 := QZ.out.trans (k1.mono QZ.out.size)
            have Q2 : But rb wr.heap.size wr a2 := (But.of_below Q1).trans (hb2.mono Q1.size)
            have P1 : Hid (Blk ((((a2.setCell ⟨w.heap.size, 0, none⟩ (.int .i64 s.Y.n)).setCell ⟨w.heap.size, 1, none⟩ (.int .i64 s.Y.d)).setCell ⟨w.heap.size, 2, none⟩ (.int .i64 (subQ s.U (mulQ p.x s.Y)).n)).setCell ⟨w.heap.size, 3, none⟩ (.int .i64 (subQ s.U (mulQ p.x s.Y)).d)) w.heap.size #[.int .i64 s.Y.n, .int .i64 s.Y.d, .int .i64 (subQ s.U (mulQ p.x s.Y)).n, .int .i64 (subQ s.U (mulQ p.x s.Y)).d] 70) := (((Y2'.out.set 0 _).set 1 _).set 2 _).set 3 _
            have P2 : Hid (flag rb (!trB G r (k + 1)) ((((a2.setCell ⟨w.heap.size, 0, none⟩ (.int .i64 s.Y.n)).setCell ⟨w.heap.size, 1, none⟩ (.int .i64 s.Y.d)).setCell ⟨w.heap.size, 2, none⟩ (.int .i64 (subQ s.U (mulQ p.x s.Y)).n)).setCell ⟨w.heap.size, 3, none⟩ (.int .i64 (subQ s.U (mulQ p.x s.Y)).d))) := by
              have e : (((!trB G r k) || !mulK p.x s.Y) || !subK s.U (mulQ p.x s.Y)) = !trB G r (k + 1) := by rw [HN.out.2]; unfold trK; rw [if_neg hk1.out]; cases trB G r k <;> cases mulK p.x s.Y <;> simp
              rw [e] at hF2
              exact (((hF2.setOther (by have := HB.out.1; simp; omega) _).setOther (by have := HB.out.1; simp; omega) _).setOther (by have := HB.out.1; simp; omega) _).setOther (by have := HB.out.1; simp; omega) _
            have P3 : Hid (Blk ((((a2.setCell ⟨w.heap.size, 0, none⟩ (.int .i64 s.Y.n)).setCell ⟨w.heap.size, 1, none⟩ (.int .i64 s.Y.d)).setCell ⟨w.heap.size, 2, none⟩ (.int .i64 (subQ s.U (mulQ p.x s.Y)).n)).setCell ⟨w.heap.size, 3, none⟩ (.int .i64 (subQ s.U (mulQ p.x s.Y)).d)) (w.heap.size + 1) #[.int .i64 0, .slice none 0 0] 67) := ((((But.blk Q2 HR.out HR.out.lt (by have := HB.out.1; omega)).setOther (by simp) _).setOther (by simp) _).setOther (by simp) _).setOther (by simp) _
            have P4 : Hid (OwR ((((a2.setCell ⟨w.heap.size, 0, none⟩ (.int .i64 s.Y.n)).setCell ⟨w.heap.size, 1, none⟩ (.int .i64 s.Y.d)).setCell ⟨w.heap.size, 2, none⟩ (.int .i64 (subQ s.U (mulQ p.x s.Y)).n)).setCell ⟨w.heap.size, 3, none⟩ (.int .i64 (subQ s.U (mulQ p.x s.Y)).d)) BS v (k + 1) (tr G r)) := ((((HW.out.grew rb Q2 HB.out.2).set (by have := HB.out; omega)).set (by have := HB.out; omega)).set (by have := HB.out; omega)).set (by have := HB.out; omega)
            have P5 : Hid (Below w.heap.size w ((((a2.setCell ⟨w.heap.size, 0, none⟩ (.int .i64 s.Y.n)).setCell ⟨w.heap.size, 1, none⟩ (.int .i64 s.Y.d)).setCell ⟨w.heap.size, 2, none⟩ (.int .i64 (subQ s.U (mulQ p.x s.Y)).n)).setCell ⟨w.heap.size, 3, none⟩ (.int .i64 (subQ s.U (mulQ p.x s.Y)).d))) := ((((HO.out.trans ((Q2.mono HO.out.size).below (by have := HB.out.1; omega))).setCell (by simp) _).setCell (by simp) _).setCell (by simp) _).setCell (by simp) _
            go_wp2_with fail
            go_meet
            case rel => exact ⟨rfl, by rw [hTe]; exact P1, P2, P3, P4, P5⟩
        case rest =>
          obtain ⟨rfl, M1, M2, M3, M4, M5⟩ := hcut
          obtain ⟨Y5, h5⟩ : ∃ v, v = wc := ⟨_, rfl⟩
          subst h5
          have hTS : Hid (tr G r (k + 1) = T) := by rw [hT]; exact HN.out.1
          have hsz : Hid (BS ≤ Y5.heap.size) := by show _ ≤ _; have := HB.out; have := M2.out.lt; have := M5.out.size; have h7 := HSZ.out Y5 M4.out; omega
          clear e0 e1 e2 c0 c1 c2 c3 BZ QZ FZ YZ hT HY HF HR HW HO HN hnil hmeth
          have c0 := M1.out.cell (j := 0) (v := .int .i64 T.Y.n) rfl
          have c1 := M1.out.cell (j := 1) (v := .int .i64 T.Y.d) rfl
          have c2 := M1.out.cell (j := 2) (v := .int .i64 T.U.n) rfl
          have c3 := M1.out.cell (j := 3) (v := .int .i64 T.U.d) rfl
          go_wp2_with (first | (at_builtin; refine push_law rfl (.tmp 42) (.tmp 44) 65 rfl 70 (.agg #[.int .i64 0, .int .i64 0, .int .i64 0, .int .i64 0]) 4 32 Try.underlying65 infoRy rfl (by decide) (by decide) Y5 [.int .i64 T.Y.n, .int .i64 T.Y.d, .int .i64 T.U.n, .int .i64 T.U.d] rfl (by intro u hu; simp at hu; rcases hu with rfl | rfl | rfl | rfl <;> rfl) BS v (k + 1) _ rfl M4.out 1 rfl (by omega) hsz.out ?_; intro v1 y7 own7 grow7 _))
          have b7 : Below BS Y5 y7 := push_below M4.out grow7 (Below.refl _ _) hsz.out
          have L1 : Hid (Blk y7 w.heap.size #[.int .i64 (tr G r (k + 1)).Y.n, .int .i64 (tr G r (k + 1)).Y.d, .int .i64 (tr G r (k + 1)).U.n, .int .i64 (tr G r (k + 1)).U.d] 70) := by rw [hTS.out]; exact (b7.block _ (by have := HB.out; omega)).trans M1.out
          have L2 : Hid (Blk y7 (w.heap.size + 1) #[.int .i64 0, .slice none 0 0] 67) := (b7.block _ (by have := HB.out; omega)).trans M3.out
          have L3 : Hid (OwR y7 BS v1 (k + 1 + 1) (tr G r)) := by show World.ownsRow _ _ _ _ _ _ _; rw [flat_succ]; rw [hTS.out]; exact own7
          have L4 : Hid (Below w.heap.size w y7) := M5.out.trans (b7.mono (by have := HB.out; omega))
          have L5 : Hid (flag rb (!trB G r (k + 1)) y7) := M2.out.below b7 HB.out.2
          clear own7 grow7 b7 M1 M2 M3 M4 M5 c0 c1 c2 c3
          go_wp2
          go_roundw
          case rel => exact ⟨k + 1, by omega, by simp, L1, L5, L2, L3, L4⟩
          case measure => simp [intOf]; omega
    · obtain rfl : n = k := by omega
      have c0 := HR.out.cell (j := 0) (v := .int .i64 0) rfl
      have c1 := HR.out.cell (j := 1) (v := .slice none 0 0) rfl
      have f0 := HR.out.frozen 0
      have f1 := HR.out.frozen 1
      have g0 := HF.out.cell
      obtain ⟨ao, cp, rfl⟩ := HW.out.seg.form
      clear HC
      cases hb : trB G r n with
      | true =>
        rw [hb] at g0
        have g1 : wr.cell? ⟨rb, 0, none⟩ = some (.bool false) := g0
        clear g0
        have hall : Hid (trB G r n = true) := hb
        clear hb
        go_wp2
        refine bodyPost_ret (v := Pl 0 (.slice ao (n + 1) cp)) (by simp [results, Try.results37, go_sem, c0, c1]) rfl ⟨.slice ao (n + 1) cp, by rw [hall.out]; rfl, ?_, (HO.out.setCell (by simp) _).setCell (by simp) _⟩
        rw [hall.out]
        show OwV 70 4 _ _ _ _ (n + 1) _
        rcases HW.out.seg with ⟨e1, e2⟩ | ⟨g, cq, e1, h1, h2, h3⟩
        · exact Or.inl ⟨e1, e2⟩
        · exact Or.inr ⟨g, cq, e1, by have := HB.out; omega, by simpa using h2, (h3.setOther (by have := HB.out; omega) _).setOther (by have := HB.out; omega) _⟩
      | false =>
        rw [hb] at g0
        have g1 : wr.cell? ⟨rb, 0, none⟩ = some (.bool true) := g0
        clear g0
        have hno : Hid (trB G r n = false) := hb
        clear hb
        go_wp2
        refine bodyPost_ret (v := Pl 3 (.slice none 0 0)) (by simp [results, Try.results37, go_sem, c0, c1]) rfl ⟨.slice none 0 0, by rw [hno.out]; rfl, Or.inl ⟨rfl, by rw [hno.out]; rfl⟩, (HO.out.setCell (by simp) _).setCell (by simp) _⟩
end Go.Proofs.Ytnikgmjjkdhjbaa
