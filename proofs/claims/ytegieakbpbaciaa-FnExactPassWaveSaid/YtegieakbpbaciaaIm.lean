/- The program's PassWave, HologramOf and ReadHologram: contracts. -/
import Derived.Test.YtegieakbpbaciaaWb
import Derived.Handy
namespace Go.Proofs.Ytegieakbpbaciaa
open Go.RowKit
set_option linter.unusedVariables false
theorem Seg.later {w w' : World} {b : Nat} {t : TypeId} {off n : Nat} {f : Nat → Value} (h : Seg w b t off n f) (hb : Below w.heap.size w w') : Seg w' b t off n f := h.of_block (hb.block _ h.lt)
/-- The result's cell, as it was made. -/
def Rc (w W : World) : Prop := W.heap[w.heap.size]? = some (.cells #[.int .i64 0, .slice none 0 0] 24 (0, 0)) ∧ Below w.heap.size w W ∧ w.heap.size + 1 ≤ W.heap.size
theorem Rc.start (w : World) : Rc w (w.alloc (.cells #[.int .i64 0, .slice none 0 0] 24)) := ⟨heap_alloc_new _ _, (Below.refl _ _).alloc (Nat.le_refl _) _, by simp⟩
theorem Rc.later {w W W' : World} (h : Rc w W) (hb : Below W.heap.size W W') : Rc w W' := ⟨(hb.block _ (by have := h.2.2; omega)).trans h.1, h.2.1.trans (hb.mono (by have := h.2.2; omega)), Nat.le_trans h.2.2 hb.size⟩
theorem Rc.c0 {w W : World} (h : Rc w W) : W.cell? ⟨w.heap.size, 0, none⟩ = some (.int .i64 0) := by simp [World.cell?, h.1]
theorem Rc.c1 {w W : World} (h : Rc w W) : W.cell? ⟨w.heap.size, 1, none⟩ = some (.slice none 0 0) := by simp [World.cell?, h.1]
theorem Rc.fz {w W : World} (h : Rc w W) (j : Nat) : W.frozen? ⟨w.heap.size, j, none⟩ = false := by simp [World.frozen?, h.1]
theorem Rc.told {w W : World} (h : Rc w W) {g n cap : Nat} {f : Nat → Int} (hg : w.heap.size + 1 ≤ g) (hs : Seg W g 2 0 n (fun i => .int .i64 (f i))) (x y : Value) :
    OwnL w.heap.size ((W.setCell ⟨w.heap.size, 0, none⟩ x).setCell ⟨w.heap.size, 1, none⟩ y).heap.size ((W.setCell ⟨w.heap.size, 0, none⟩ x).setCell ⟨w.heap.size, 1, none⟩ y) 0 (.slice (some ⟨g, 0, none⟩) n cap) n f ∧ Below w.heap.size w ((W.setCell ⟨w.heap.size, 0, none⟩ x).setCell ⟨w.heap.size, 1, none⟩ y) := by
  have hs2 := (hs.setOther (a := ⟨w.heap.size, 0, none⟩) (by show g ≠ w.heap.size; omega) x).setOther (a := ⟨w.heap.size, 1, none⟩) (by show g ≠ w.heap.size; omega) y
  exact ⟨Or.inr ⟨rfl, g, cap, rfl, by omega, hs2.lt, hs2⟩, (h.2.1.setCell (Nat.le_refl _) _).setCell (Nat.le_refl _) _⟩
namespace Wv
theorem md_md (a : Int) : Rm.md (Rm.md a) = Rm.md a := Rm.md_id (Rm.md_lo _) (Rm.md_hi _)
theorem mulM_md (a b : Int) : Rm.mulM (Rm.md a) (Rm.md b) = Rm.mulM a b := by unfold Rm.mulM; rw [md_md, md_md]
theorem addM_mdl (a b : Int) : Rm.addM (Rm.md a) b = Rm.addM a b := by unfold Rm.addM; rw [md_md]
theorem invM_md (a : Int) : Rm.invM (Rm.md a) = Rm.invM a := by
  unfold Rm.invM Rm.powI
  rw [if_neg (by omega), if_neg (by omega)]
  unfold Rm.powM Rm.md
  rw [Rm.pow_md]
theorem less_md (a b : Int) : Rm.addM (Rm.md a) (Rm.mulM b 998244352) = Rm.addM a (-b) := by
  rw [addM_mdl, Rm.addM_eq, Rm.addM_eq, Rm.mulM_eq]; omega
end Wv
set_option maxHeartbeats 2000000 in
theorem iPass_ok {w : World} {vf vg : Value} {n : Nat} {f g : Nat → Int} (hf : RdRow w vf n f) (hg : RdRow w vg n g) (hp : Wv.pf n n = 0) (h0 : 0 < n) (hn : n ≤ 1000000) :
    Calls Try.prog 9 #[vf, vg] w fun e w' => ∃ v, e = .returned (.agg #[.int .i64 0, v]) ∧ OwnL w.heap.size w'.heap.size w' 0 v n (fun i => Rm.mulM (f i) (g i)) ∧ Below w.heap.size w w' := by
  have RF : Hid (RdRow w vf n f) := hf
  have RG : Hid (RdRow w vg n g) := hg
  obtain ⟨bf, of, capf, rfl, cf⟩ := hf.get h0
  obtain ⟨bg, og, capg, rfl, cg⟩ := hg.get h0
  clear hf hg cf cg
  go_enter Try.func9, Try.ntmps9
  go_wp2_with fail
  obtain ⟨x0, hx0⟩ : ∃ W, W = w.alloc (.cells #[.int .i64 0, .slice none 0 0] 24) := ⟨_, rfl⟩
  have R0 : Hid (Rc w x0) := by rw [hx0]; exact Rc.start w
  rw [← hx0]
  clear hx0
  refine (iPair_any _ _ n n _ _ _).mono ?_
  rintro e w1 ⟨rfl, rfl⟩
  rw [hp]
  go_wp2_with fail
  refine (waveOf_any (RF.out.later R0.out.2.1)  h0 (by omega)).mono ?_
  rintro e x1 ⟨rfl, hss, hbb, hzz⟩
  clear hzz
  have R1 : Hid (Rc w x1) := R0.out.later hbb
  have A_1 : Hid (Seg x1 x0.heap.size 40 0 n (fun i => .int .i64 (Rm.md (f i)))) := hss
  clear hss hbb R0
  go_wp2_with fail
  refine (waveOf_any (RG.out.later R1.out.2.1)  h0 (by omega)).mono ?_
  rintro e x2 ⟨rfl, hss, hbb, hzz⟩
  clear hzz
  have R2 : Hid (Rc w x2) := R1.out.later hbb
  have A_2 : Hid (Seg x2 x0.heap.size 40 0 n (fun i => .int .i64 (Rm.md (f i)))) := A_1.out.later hbb
  clear A_1
  have B_2 : Hid (Seg x2 x1.heap.size 40 0 n (fun i => .int .i64 (Rm.md (g i)))) := hss
  clear hss hbb R1
  go_wp2_with fail
  refine (through_any A_2.out.rd B_2.out.rd  h0 (by omega)).mono ?_
  rintro e x3 ⟨rfl, hss, hbb, hzz⟩
  clear hzz
  have R3 : Hid (Rc w x3) := R2.out.later hbb
  have A_3 : Hid (Seg x3 x0.heap.size 40 0 n (fun i => .int .i64 (Rm.md (f i)))) := A_2.out.later hbb
  clear A_2
  have B_3 : Hid (Seg x3 x1.heap.size 40 0 n (fun i => .int .i64 (Rm.md (g i)))) := B_2.out.later hbb
  clear B_2
  have C_3 : Hid (Seg x3 x2.heap.size 40 0 n (fun i => .int .i64 (Rm.mulM (Rm.md (f i)) (Rm.md (g i))))) := hss
  clear hss hbb R2
  go_wp2_with fail
  refine (tellWave_any C_3.out.rd h0 (by omega)).mono ?_
  rintro e x4 ⟨rfl, hss, hbb, hzz⟩
  have R4 : Hid (Rc w x4) := R3.out.later hbb
  have SS : Hid (Seg x4 (x3.heap.size + 1) 2 0 n (fun i => .int .i64 (Rm.mulM (f i) (g i)))) := hss.congr fun i hi => by rw [Wv.mulM_md]
  have zl : w.heap.size + 1 ≤ x3.heap.size := R3.out.2.2
  have c0 := R4.out.c0
  have c1 := R4.out.c1
  have f0 := R4.out.fz 0
  have f1 := R4.out.fz 1
  clear hss hbb hzz
  go_wp2
  exact bodyPost_ret (v := .agg #[.int .i64 0, .slice (some ⟨x3.heap.size + 1, 0, none⟩) n n]) (by simp [results, Try.results9, go_sem, c0, c1]) rfl ⟨_, rfl, R4.out.told (by omega) SS.out _ _⟩
set_option maxHeartbeats 2000000 in
theorem iPass_any {w : World} {b0 b1 n m : Nat} {f g : Nat → Int} (s0 : Seg w b0 2 0 n (fun i => .int .i64 (f i))) (s1 : Seg w b1 2 0 m (fun i => .int .i64 (g i))) (hn : n ≤ 1000000000000) (hm : m ≤ 1000000000000) :
    Calls Try.prog 9 #[.slice (some ⟨b0, 0, none⟩) n n, .slice (some ⟨b1, 0, none⟩) m m] w fun e w' => ∃ v, e = .returned (.agg #[.int .i64 (Wv.pf n m), v]) ∧ OwnL w.heap.size w'.heap.size w' (Wv.pf n m) v n (fun i => Rm.mulM (f i) (g i)) ∧ Below w.heap.size w w' := by
  by_cases hp : Wv.pf n m = 0
  · obtain ⟨hw, rfl⟩ := Wv.pf_ok hp
    have hle := Wv.wf_le hw
    rw [hp]
    exact iPass_ok s0.rd s1.rd hp (by omega) (by omega)
  · have A : Hid (∀ w, RdRow w (.slice (some ⟨b0, 0, none⟩) n n) n f → RdRow w (.slice (some ⟨b1, 0, none⟩) m m) m g → Calls Try.prog 23 #[.slice (some ⟨b0, 0, none⟩) n n, .slice (some ⟨b1, 0, none⟩) m m] w fun e w' => e = .returned (.int .i64 (Wv.pf n m)) ∧ w = w') := fun w _ _ => iPair_any _ _ n m _ _ w
    have RF : Hid (RdRow w (.slice (some ⟨b0, 0, none⟩) n n) n f) := s0.rd
    have RG : Hid (RdRow w (.slice (some ⟨b1, 0, none⟩) m m) m g) := s1.rd
    clear s0 s1
    generalize Wv.pf n m = c at *
    have hc : (c != 0) = true := by rw [bne_iff_ne]; exact hp
    have HC : Hid (c ≠ 0) := hp
    clear hp
    go_enter Try.func9, Try.ntmps9
    go_wp2_with fail
    refine (A.out _ (RF.out.later (by go_grown)) (RG.out.later (by go_grown))).mono ?_
    rintro e w1 ⟨rfl, rfl⟩
    go_wp2
    refine bodyPost_ret (v := .agg #[.int .i64 c, .slice none 0 0]) (by simp [results, Try.results9, go_sem]) rfl ⟨_, rfl, Or.inl ⟨HC.out, rfl⟩, ?_⟩
    go_grown
set_option maxHeartbeats 2000000 in
theorem iHoloOf_ok {w : World} {vf vg : Value} {n : Nat} {f g : Nat → Int} (hf : RdRow w vf n f) (hg : RdRow w vg n g) (hp : Wv.pf n n = 0) (hz : Wv.bz g n = false) (h0 : 0 < n) (hn : n ≤ 1000000) :
    Calls Try.prog 16 #[vf, vg] w fun e w' => ∃ v, e = .returned (.agg #[.int .i64 0, v]) ∧ OwnL w.heap.size w'.heap.size w' 0 v n (fun i => Rm.addM (Rm.mulM (f i) (g i)) (Rm.mulM (g i) (g i))) ∧ Below w.heap.size w w' := by
  have RF : Hid (RdRow w vf n f) := hf
  have RG : Hid (RdRow w vg n g) := hg
  obtain ⟨bf, of, capf, rfl, cf⟩ := hf.get h0
  obtain ⟨bg, og, capg, rfl, cg⟩ := hg.get h0
  clear hf hg cf cg
  go_enter Try.func16, Try.ntmps16
  go_wp2_with fail
  obtain ⟨x0, hx0⟩ : ∃ W, W = w.alloc (.cells #[.int .i64 0, .slice none 0 0] 24) := ⟨_, rfl⟩
  have R0 : Hid (Rc w x0) := by rw [hx0]; exact Rc.start w
  rw [← hx0]
  clear hx0
  refine (iHolo_any (RF.out.later R0.out.2.1) (RG.out.later R0.out.2.1) (by omega) (by omega)).mono ?_
  rintro e w1 ⟨rfl, rfl⟩
  rw [Wv.hf_no hp hz]
  go_wp2_with fail
  refine (waveOf_any (RG.out.later R0.out.2.1)  h0 (by omega)).mono ?_
  rintro e x1 ⟨rfl, hss, hbb, hzz⟩
  clear hzz
  have R1 : Hid (Rc w x1) := R0.out.later hbb
  have B_1 : Hid (Seg x1 x0.heap.size 40 0 n (fun i => .int .i64 (Rm.md (g i)))) := hss
  clear hss hbb R0
  go_wp2_with fail
  refine (waveOf_any (RF.out.later R1.out.2.1)  h0 (by omega)).mono ?_
  rintro e x2 ⟨rfl, hss, hbb, hzz⟩
  clear hzz
  have R2 : Hid (Rc w x2) := R1.out.later hbb
  have B_2 : Hid (Seg x2 x0.heap.size 40 0 n (fun i => .int .i64 (Rm.md (g i)))) := B_1.out.later hbb
  clear B_1
  have A_2 : Hid (Seg x2 x1.heap.size 40 0 n (fun i => .int .i64 (Rm.md (f i)))) := hss
  clear hss hbb R1
  go_wp2_with fail
  refine (through_any A_2.out.rd B_2.out.rd  h0 (by omega)).mono ?_
  rintro e x3 ⟨rfl, hss, hbb, hzz⟩
  clear hzz
  have R3 : Hid (Rc w x3) := R2.out.later hbb
  have B_3 : Hid (Seg x3 x0.heap.size 40 0 n (fun i => .int .i64 (Rm.md (g i)))) := B_2.out.later hbb
  clear B_2
  have A_3 : Hid (Seg x3 x1.heap.size 40 0 n (fun i => .int .i64 (Rm.md (f i)))) := A_2.out.later hbb
  clear A_2
  have C_3 : Hid (Seg x3 x2.heap.size 40 0 n (fun i => .int .i64 (Rm.mulM (Rm.md (f i)) (Rm.md (g i))))) := hss
  clear hss hbb R2
  go_wp2_with fail
  refine (through_any B_3.out.rd B_3.out.rd  h0 (by omega)).mono ?_
  rintro e x4 ⟨rfl, hss, hbb, hzz⟩
  clear hzz
  have R4 : Hid (Rc w x4) := R3.out.later hbb
  have B_4 : Hid (Seg x4 x0.heap.size 40 0 n (fun i => .int .i64 (Rm.md (g i)))) := B_3.out.later hbb
  clear B_3
  have A_4 : Hid (Seg x4 x1.heap.size 40 0 n (fun i => .int .i64 (Rm.md (f i)))) := A_3.out.later hbb
  clear A_3
  have C_4 : Hid (Seg x4 x2.heap.size 40 0 n (fun i => .int .i64 (Rm.mulM (Rm.md (f i)) (Rm.md (g i))))) := C_3.out.later hbb
  clear C_3
  have D_4 : Hid (Seg x4 x3.heap.size 40 0 n (fun i => .int .i64 (Rm.mulM (Rm.md (g i)) (Rm.md (g i))))) := hss
  clear hss hbb R3
  go_wp2_with fail
  refine (over_any C_4.out.rd D_4.out.rd  h0 (by omega)).mono ?_
  rintro e x5 ⟨rfl, hss, hbb, hzz⟩
  clear hzz
  have R5 : Hid (Rc w x5) := R4.out.later hbb
  have B_5 : Hid (Seg x5 x0.heap.size 40 0 n (fun i => .int .i64 (Rm.md (g i)))) := B_4.out.later hbb
  clear B_4
  have A_5 : Hid (Seg x5 x1.heap.size 40 0 n (fun i => .int .i64 (Rm.md (f i)))) := A_4.out.later hbb
  clear A_4
  have C_5 : Hid (Seg x5 x2.heap.size 40 0 n (fun i => .int .i64 (Rm.mulM (Rm.md (f i)) (Rm.md (g i))))) := C_4.out.later hbb
  clear C_4
  have D_5 : Hid (Seg x5 x3.heap.size 40 0 n (fun i => .int .i64 (Rm.mulM (Rm.md (g i)) (Rm.md (g i))))) := D_4.out.later hbb
  clear D_4
  have E_5 : Hid (Seg x5 x4.heap.size 40 0 n (fun i => .int .i64 (Rm.addM (Rm.mulM (Rm.md (f i)) (Rm.md (g i))) (Rm.mulM (Rm.md (g i)) (Rm.md (g i)))))) := hss
  clear hss hbb R4
  go_wp2_with fail
  refine (tellWave_any E_5.out.rd h0 (by omega)).mono ?_
  rintro e x6 ⟨rfl, hss, hbb, hzz⟩
  have R6 : Hid (Rc w x6) := R5.out.later hbb
  have SS : Hid (Seg x6 (x5.heap.size + 1) 2 0 n (fun i => .int .i64 (Rm.addM (Rm.mulM (f i) (g i)) (Rm.mulM (g i) (g i))))) := hss.congr fun i hi => by rw [Wv.mulM_md, Wv.mulM_md]
  have zl : w.heap.size + 1 ≤ x5.heap.size := R5.out.2.2
  have c0 := R6.out.c0
  have c1 := R6.out.c1
  have f0 := R6.out.fz 0
  have f1 := R6.out.fz 1
  clear hss hbb hzz
  go_wp2
  exact bodyPost_ret (v := .agg #[.int .i64 0, .slice (some ⟨x5.heap.size + 1, 0, none⟩) n n]) (by simp [results, Try.results16, go_sem, c0, c1]) rfl ⟨_, rfl, R6.out.told (by omega) SS.out _ _⟩
set_option maxHeartbeats 2000000 in
theorem iHoloOf_any {w : World} {b0 b1 n m : Nat} {f g : Nat → Int} (s0 : Seg w b0 2 0 n (fun i => .int .i64 (f i))) (s1 : Seg w b1 2 0 m (fun i => .int .i64 (g i))) (hn : n ≤ 1000000000000) (hm : m ≤ 1000000000000) :
    Calls Try.prog 16 #[.slice (some ⟨b0, 0, none⟩) n n, .slice (some ⟨b1, 0, none⟩) m m] w fun e w' => ∃ v, e = .returned (.agg #[.int .i64 (Wv.hf n m g), v]) ∧ OwnL w.heap.size w'.heap.size w' (Wv.hf n m g) v n (fun i => Rm.addM (Rm.mulM (f i) (g i)) (Rm.mulM (g i) (g i))) ∧ Below w.heap.size w w' := by
  by_cases hp : Wv.hf n m g = 0
  · obtain ⟨hq, hz⟩ := Wv.hf_ok hp
    obtain ⟨hw, rfl⟩ := Wv.pf_ok hq
    have hle := Wv.wf_le hw
    rw [hp]
    exact iHoloOf_ok s0.rd s1.rd hq hz (by omega) (by omega)
  · have A : Hid (∀ w, RdRow w (.slice (some ⟨b0, 0, none⟩) n n) n f → RdRow w (.slice (some ⟨b1, 0, none⟩) m m) m g → Calls Try.prog 30 #[.slice (some ⟨b0, 0, none⟩) n n, .slice (some ⟨b1, 0, none⟩) m m] w fun e w' => e = .returned (.int .i64 (Wv.hf n m g)) ∧ w = w') := fun w h1 h2 => iHolo_any h1 h2 hn hm
    have RF : Hid (RdRow w (.slice (some ⟨b0, 0, none⟩) n n) n f) := s0.rd
    have RG : Hid (RdRow w (.slice (some ⟨b1, 0, none⟩) m m) m g) := s1.rd
    clear s0 s1
    generalize Wv.hf n m g = c at *
    have hc : (c != 0) = true := by rw [bne_iff_ne]; exact hp
    have HC : Hid (c ≠ 0) := hp
    clear hp
    go_enter Try.func16, Try.ntmps16
    go_wp2_with fail
    refine (A.out _ (RF.out.later (by go_grown)) (RG.out.later (by go_grown))).mono ?_
    rintro e w1 ⟨rfl, rfl⟩
    go_wp2
    refine bodyPost_ret (v := .agg #[.int .i64 c, .slice none 0 0]) (by simp [results, Try.results16, go_sem]) rfl ⟨_, rfl, Or.inl ⟨HC.out, rfl⟩, ?_⟩
    go_grown
set_option maxHeartbeats 2000000 in
theorem iRead_ok {w : World} {vf vg : Value} {n : Nat} {f g : Nat → Int} (hf : RdRow w vf n f) (hg : RdRow w vg n g) (hp : Wv.pf n n = 0) (hz : Wv.bz g n = false) (h0 : 0 < n) (hn : n ≤ 1000000) :
    Calls Try.prog 18 #[vf, vg] w fun e w' => ∃ v, e = .returned (.agg #[.int .i64 0, v]) ∧ OwnL w.heap.size w'.heap.size w' 0 v n (fun i => Rm.mulM (Rm.addM (f i) (-(Rm.mulM (g i) (g i)))) (Rm.invM (g i))) ∧ Below w.heap.size w w' := by
  have RF : Hid (RdRow w vf n f) := hf
  have RG : Hid (RdRow w vg n g) := hg
  obtain ⟨bf, of, capf, rfl, cf⟩ := hf.get h0
  obtain ⟨bg, og, capg, rfl, cg⟩ := hg.get h0
  clear hf hg cf cg
  go_enter Try.func18, Try.ntmps18
  go_wp2_with fail
  obtain ⟨x0, hx0⟩ : ∃ W, W = w.alloc (.cells #[.int .i64 0, .slice none 0 0] 24) := ⟨_, rfl⟩
  have R0 : Hid (Rc w x0) := by rw [hx0]; exact Rc.start w
  rw [← hx0]
  clear hx0
  refine (iHolo_any (RF.out.later R0.out.2.1) (RG.out.later R0.out.2.1) (by omega) (by omega)).mono ?_
  rintro e w1 ⟨rfl, rfl⟩
  rw [Wv.hf_no hp hz]
  go_wp2_with fail
  refine (waveOf_any (RG.out.later R0.out.2.1)  h0 (by omega)).mono ?_
  rintro e x1 ⟨rfl, hss, hbb, hzz⟩
  clear hzz
  have R1 : Hid (Rc w x1) := R0.out.later hbb
  have B_1 : Hid (Seg x1 x0.heap.size 40 0 n (fun i => .int .i64 (Rm.md (g i)))) := hss
  clear hss hbb R0
  go_wp2_with fail
  refine (waveOf_any (RF.out.later R1.out.2.1)  h0 (by omega)).mono ?_
  rintro e x2 ⟨rfl, hss, hbb, hzz⟩
  clear hzz
  have R2 : Hid (Rc w x2) := R1.out.later hbb
  have B_2 : Hid (Seg x2 x0.heap.size 40 0 n (fun i => .int .i64 (Rm.md (g i)))) := B_1.out.later hbb
  clear B_1
  have A_2 : Hid (Seg x2 x1.heap.size 40 0 n (fun i => .int .i64 (Rm.md (f i)))) := hss
  clear hss hbb R1
  go_wp2_with fail
  refine (through_any B_2.out.rd B_2.out.rd  h0 (by omega)).mono ?_
  rintro e x3 ⟨rfl, hss, hbb, hzz⟩
  clear hzz
  have R3 : Hid (Rc w x3) := R2.out.later hbb
  have B_3 : Hid (Seg x3 x0.heap.size 40 0 n (fun i => .int .i64 (Rm.md (g i)))) := B_2.out.later hbb
  clear B_2
  have A_3 : Hid (Seg x3 x1.heap.size 40 0 n (fun i => .int .i64 (Rm.md (f i)))) := A_2.out.later hbb
  clear A_2
  have D_3 : Hid (Seg x3 x2.heap.size 40 0 n (fun i => .int .i64 (Rm.mulM (Rm.md (g i)) (Rm.md (g i))))) := hss
  clear hss hbb R2
  go_wp2_with fail
  refine (scaled_any D_3.out.rd 998244352 h0 (by omega)).mono ?_
  rintro e x4 ⟨rfl, hss, hbb, hzz⟩
  clear hzz
  have R4 : Hid (Rc w x4) := R3.out.later hbb
  have B_4 : Hid (Seg x4 x0.heap.size 40 0 n (fun i => .int .i64 (Rm.md (g i)))) := B_3.out.later hbb
  clear B_3
  have A_4 : Hid (Seg x4 x1.heap.size 40 0 n (fun i => .int .i64 (Rm.md (f i)))) := A_3.out.later hbb
  clear A_3
  have D_4 : Hid (Seg x4 x2.heap.size 40 0 n (fun i => .int .i64 (Rm.mulM (Rm.md (g i)) (Rm.md (g i))))) := D_3.out.later hbb
  clear D_3
  have S_4 : Hid (Seg x4 x3.heap.size 40 0 n (fun i => .int .i64 (Rm.mulM (Rm.mulM (Rm.md (g i)) (Rm.md (g i))) 998244352))) := hss
  clear hss hbb R3
  go_wp2_with fail
  refine (over_any A_4.out.rd S_4.out.rd  h0 (by omega)).mono ?_
  rintro e x5 ⟨rfl, hss, hbb, hzz⟩
  clear hzz
  have R5 : Hid (Rc w x5) := R4.out.later hbb
  have B_5 : Hid (Seg x5 x0.heap.size 40 0 n (fun i => .int .i64 (Rm.md (g i)))) := B_4.out.later hbb
  clear B_4
  have A_5 : Hid (Seg x5 x1.heap.size 40 0 n (fun i => .int .i64 (Rm.md (f i)))) := A_4.out.later hbb
  clear A_4
  have D_5 : Hid (Seg x5 x2.heap.size 40 0 n (fun i => .int .i64 (Rm.mulM (Rm.md (g i)) (Rm.md (g i))))) := D_4.out.later hbb
  clear D_4
  have S_5 : Hid (Seg x5 x3.heap.size 40 0 n (fun i => .int .i64 (Rm.mulM (Rm.mulM (Rm.md (g i)) (Rm.md (g i))) 998244352))) := S_4.out.later hbb
  clear S_4
  have E_5 : Hid (Seg x5 x4.heap.size 40 0 n (fun i => .int .i64 (Rm.addM (Rm.md (f i)) (Rm.mulM (Rm.mulM (Rm.md (g i)) (Rm.md (g i))) 998244352)))) := hss
  clear hss hbb R4
  go_wp2_with fail
  refine (inverses_any B_5.out.rd  h0 (by omega)).mono ?_
  rintro e x6 ⟨rfl, hss, hbb, hzz⟩
  clear hzz
  have R6 : Hid (Rc w x6) := R5.out.later hbb
  have B_6 : Hid (Seg x6 x0.heap.size 40 0 n (fun i => .int .i64 (Rm.md (g i)))) := B_5.out.later hbb
  clear B_5
  have A_6 : Hid (Seg x6 x1.heap.size 40 0 n (fun i => .int .i64 (Rm.md (f i)))) := A_5.out.later hbb
  clear A_5
  have D_6 : Hid (Seg x6 x2.heap.size 40 0 n (fun i => .int .i64 (Rm.mulM (Rm.md (g i)) (Rm.md (g i))))) := D_5.out.later hbb
  clear D_5
  have S_6 : Hid (Seg x6 x3.heap.size 40 0 n (fun i => .int .i64 (Rm.mulM (Rm.mulM (Rm.md (g i)) (Rm.md (g i))) 998244352))) := S_5.out.later hbb
  clear S_5
  have E_6 : Hid (Seg x6 x4.heap.size 40 0 n (fun i => .int .i64 (Rm.addM (Rm.md (f i)) (Rm.mulM (Rm.mulM (Rm.md (g i)) (Rm.md (g i))) 998244352)))) := E_5.out.later hbb
  clear E_5
  have V_6 : Hid (Seg x6 x5.heap.size 40 0 n (fun i => .int .i64 (Rm.invM (Rm.md (g i))))) := hss
  clear hss hbb R5
  go_wp2_with fail
  refine (through_any E_6.out.rd V_6.out.rd  h0 (by omega)).mono ?_
  rintro e x7 ⟨rfl, hss, hbb, hzz⟩
  clear hzz
  have R7 : Hid (Rc w x7) := R6.out.later hbb
  have B_7 : Hid (Seg x7 x0.heap.size 40 0 n (fun i => .int .i64 (Rm.md (g i)))) := B_6.out.later hbb
  clear B_6
  have A_7 : Hid (Seg x7 x1.heap.size 40 0 n (fun i => .int .i64 (Rm.md (f i)))) := A_6.out.later hbb
  clear A_6
  have D_7 : Hid (Seg x7 x2.heap.size 40 0 n (fun i => .int .i64 (Rm.mulM (Rm.md (g i)) (Rm.md (g i))))) := D_6.out.later hbb
  clear D_6
  have S_7 : Hid (Seg x7 x3.heap.size 40 0 n (fun i => .int .i64 (Rm.mulM (Rm.mulM (Rm.md (g i)) (Rm.md (g i))) 998244352))) := S_6.out.later hbb
  clear S_6
  have E_7 : Hid (Seg x7 x4.heap.size 40 0 n (fun i => .int .i64 (Rm.addM (Rm.md (f i)) (Rm.mulM (Rm.mulM (Rm.md (g i)) (Rm.md (g i))) 998244352)))) := E_6.out.later hbb
  clear E_6
  have V_7 : Hid (Seg x7 x5.heap.size 40 0 n (fun i => .int .i64 (Rm.invM (Rm.md (g i))))) := V_6.out.later hbb
  clear V_6
  have T_7 : Hid (Seg x7 x6.heap.size 40 0 n (fun i => .int .i64 (Rm.mulM (Rm.addM (Rm.md (f i)) (Rm.mulM (Rm.mulM (Rm.md (g i)) (Rm.md (g i))) 998244352)) (Rm.invM (Rm.md (g i)))))) := hss
  clear hss hbb R6
  go_wp2_with fail
  refine (tellWave_any T_7.out.rd h0 (by omega)).mono ?_
  rintro e x8 ⟨rfl, hss, hbb, hzz⟩
  have R8 : Hid (Rc w x8) := R7.out.later hbb
  have SS : Hid (Seg x8 (x7.heap.size + 1) 2 0 n (fun i => .int .i64 (Rm.mulM (Rm.addM (f i) (-(Rm.mulM (g i) (g i)))) (Rm.invM (g i))))) := hss.congr fun i hi => by rw [Wv.mulM_md, Wv.less_md, Wv.invM_md]
  have zl : w.heap.size + 1 ≤ x7.heap.size := R7.out.2.2
  have c0 := R8.out.c0
  have c1 := R8.out.c1
  have f0 := R8.out.fz 0
  have f1 := R8.out.fz 1
  clear hss hbb hzz
  go_wp2
  exact bodyPost_ret (v := .agg #[.int .i64 0, .slice (some ⟨x7.heap.size + 1, 0, none⟩) n n]) (by simp [results, Try.results18, go_sem, c0, c1]) rfl ⟨_, rfl, R8.out.told (by omega) SS.out _ _⟩
set_option maxHeartbeats 2000000 in
theorem iRead_any {w : World} {b0 b1 n m : Nat} {f g : Nat → Int} (s0 : Seg w b0 2 0 n (fun i => .int .i64 (f i))) (s1 : Seg w b1 2 0 m (fun i => .int .i64 (g i))) (hn : n ≤ 1000000000000) (hm : m ≤ 1000000000000) :
    Calls Try.prog 18 #[.slice (some ⟨b0, 0, none⟩) n n, .slice (some ⟨b1, 0, none⟩) m m] w fun e w' => ∃ v, e = .returned (.agg #[.int .i64 (Wv.hf n m g), v]) ∧ OwnL w.heap.size w'.heap.size w' (Wv.hf n m g) v n (fun i => Rm.mulM (Rm.addM (f i) (-(Rm.mulM (g i) (g i)))) (Rm.invM (g i))) ∧ Below w.heap.size w w' := by
  by_cases hp : Wv.hf n m g = 0
  · obtain ⟨hq, hz⟩ := Wv.hf_ok hp
    obtain ⟨hw, rfl⟩ := Wv.pf_ok hq
    have hle := Wv.wf_le hw
    rw [hp]
    exact iRead_ok s0.rd s1.rd hq hz (by omega) (by omega)
  · have A : Hid (∀ w, RdRow w (.slice (some ⟨b0, 0, none⟩) n n) n f → RdRow w (.slice (some ⟨b1, 0, none⟩) m m) m g → Calls Try.prog 30 #[.slice (some ⟨b0, 0, none⟩) n n, .slice (some ⟨b1, 0, none⟩) m m] w fun e w' => e = .returned (.int .i64 (Wv.hf n m g)) ∧ w = w') := fun w h1 h2 => iHolo_any h1 h2 hn hm
    have RF : Hid (RdRow w (.slice (some ⟨b0, 0, none⟩) n n) n f) := s0.rd
    have RG : Hid (RdRow w (.slice (some ⟨b1, 0, none⟩) m m) m g) := s1.rd
    clear s0 s1
    generalize Wv.hf n m g = c at *
    have hc : (c != 0) = true := by rw [bne_iff_ne]; exact hp
    have HC : Hid (c ≠ 0) := hp
    clear hp
    go_enter Try.func18, Try.ntmps18
    go_wp2_with fail
    refine (A.out _ (RF.out.later (by go_grown)) (RG.out.later (by go_grown))).mono ?_
    rintro e w1 ⟨rfl, rfl⟩
    go_wp2
    refine bodyPost_ret (v := .agg #[.int .i64 c, .slice none 0 0]) (by simp [results, Try.results18, go_sem]) rfl ⟨_, rfl, Or.inl ⟨HC.out, rfl⟩, ?_⟩
    go_grown
end Go.Proofs.Ytegieakbpbaciaa
