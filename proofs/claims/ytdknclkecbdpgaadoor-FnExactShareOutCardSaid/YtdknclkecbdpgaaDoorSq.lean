/- Shares given out, of the program. -/
import Derived.Test.YtdknclkecbdpgaaDoorSo
import Derived.Test.YtdknclkecbdpgaaDoorCd
namespace Go.Proofs.YtdknclkecbdpgaaDoor
open Go.RowKit
set_option linter.unusedVariables false
set_option linter.unusedSimpArgs false
theorem mk27 (M : Nat) (hM : M ≤ 1000) (w : World) : (Instr.makeSlice 27 (.int .i64 (M : Int)) (.int .i64 (M : Int))).run Tryd.prog w = .ok (.slice (some ⟨w.heap.size, 0, none⟩) M M) (w.alloc (.cells (madeCells #[.int .i64 0, .int .i64 0] (M * 2)) 33)) := by
  obtain ⟨i, hi, hz, hs, hb⟩ := info_parts info33
  have hr := run_make (P := Tryd.prog) w 27 33 i _ Tryd.underlying27 hi hz .i64 .i64 M M (by omega) (by omega) (by rw [hb]; omega) (by omega)
  rw [hs] at hr
  simpa [Value.cells] using hr
/-- The list half filled, beside the answer's box. -/
structure Lq (w W : World) (B k M : Nat) (G : Nat → Sh) : Prop where
  seg : SegV W B 33 M 2 (fun i j => if i < k then scell (G i) j else .int .i64 0)
  rbox : Blk W w.heap.size #[.int .i64 0, .slice none 0 0] 29
  below : Below w.heap.size w W
  lb : w.heap.size + 1 ≤ B
theorem Lq.later {w W W' : World} {B k M : Nat} {G : Nat → Sh} (h : Lq w W B k M G) (b : Below W.heap.size W W') : Lq w W' B k M G :=
  ⟨h.seg.below b, h.rbox.later b, h.below.trans (b.mono h.below.size), h.lb⟩
theorem Lq.put {w W : World} {B k M : Nat} {G : Nat → Sh} {x y : Int} (h : Lq w W B k M G) (hk : k < M) (hx : x = (G k).1) (hy : y = (G k).2) : Lq w ((W.setCell ⟨B, k * 2, none⟩ (.int .i64 x)).setCell ⟨B, k * 2 + 1, none⟩ (.int .i64 y)) B (k + 1) M G := by
  have hlb := h.lb
  have t0 := SegV.set h.seg hk (show 0 < 2 by omega) (.int .i64 x)
  have t1 := SegV.set t0 hk (show 1 < 2 by omega) (.int .i64 y)
  refine ⟨t1.congr fun a ha j hj => ?_, (h.rbox.setOther (by simp; omega) _).setOther (by simp; omega) _, (h.below.setCell (by simp; omega) _).setCell (by simp; omega) _, h.lb⟩
  by_cases c : a = k
  · subst c
    have e3 : a < a + 1 := by omega
    match j, hj with
    | 0, _ => simp [e3, scell, hx]
    | 1, _ => simp [e3, scell, hy]
  · by_cases c2 : a < k
    · simp [c, c2, Nat.lt_succ_of_lt c2]
    · have : ¬ a < k + 1 := by omega
      simp [c, c2, this]
theorem Lq.made {w W : World} {M : Nat} {G : Nat → Sh} (h1 : Blk W w.heap.size #[.int .i64 0, .slice none 0 0] 29) (h2 : Below w.heap.size w W) : Lq w (W.alloc (.cells (madeCells #[.int .i64 0, .int .i64 0] (M * 2)) 33)) W.heap.size 0 M G := by
  refine ⟨⟨_, heap_alloc_new _ _, fun i hi j hj => ?_⟩, h1.alloc _, h2.alloc h2.size _, h1.lt⟩
  rw [made_cell (idx_lt hj hi)]
  have : (i * 2 + j) % 2 = 0 ∨ (i * 2 + j) % 2 = 1 := by omega
  rcases this with e | e <;> simp [e]
def shc (n : Nat) (M : Int) : Int := if n = 0 ∨ M < n then 1 else if 60 < M then 2 else 0
theorem iSF_any (ao : Option Addr) (n cap : Nat) (M : Int) (w : World) : Calls Tryd.prog 82 #[.slice ao n cap, .int .i64 M] w fun e w' => e = .returned (er (shc n M)) ∧ w' = w := by
  by_cases h0 : n = 0
  · subst h0
    rw [show shc 0 M = 1 by simp [shc], er_c (by decide)]
    go_enter Tryd.func82, Tryd.ntmps82
    go_wp2
    go_ret
    exact ⟨rfl, rfl⟩
  by_cases h1 : M < n
  · rw [show shc n M = 1 by unfold shc; rw [if_pos (Or.inr h1)], er_c (by decide)]
    go_enter Tryd.func82, Tryd.ntmps82
    go_wp2
    go_ret
    exact ⟨rfl, rfl⟩
  by_cases h2 : 60 < M
  · rw [show shc n M = 2 by unfold shc; rw [if_neg (by omega), if_pos h2], er_c (by decide)]
    go_enter Tryd.func82, Tryd.ntmps82
    go_wp2
    go_ret
    exact ⟨rfl, rfl⟩
  · rw [show shc n M = 0 by unfold shc; rw [if_neg (by omega), if_neg h2], er_0]
    go_enter Tryd.func82, Tryd.ntmps82
    go_wp2
    go_ret
    exact ⟨rfl, rfl⟩
set_option maxRecDepth 20000 in
set_option maxHeartbeats 3200000 in
theorem iSO_bad {w : World} {ao : Option Addr} {n cap : Nat} {M : Int} (hc : shc n M ≠ 0) (hE : Et w) (G : Nat → Sh) : Sa 19 #[.slice ao n cap, .int .i64 M] w (shc n M) 0 G := by
  unfold Sa
  obtain ⟨c, hcc⟩ : ∃ c, c = shc n M := ⟨_, rfl⟩
  have HF : Hid (∀ W, Calls Tryd.prog 82 #[.slice ao n cap, .int .i64 M] W fun e w' => e = .returned (er c) ∧ w' = W) := fun W => by rw [hcc]; exact iSF_any ao n cap M W
  rw [← hcc] at hc ⊢
  have hcb : (c != 0) = true := by simp [hc]
  have HE : Hid (Et w) := hE
  clear hcc hE
  obtain ⟨w0, hw0⟩ : ∃ W, W = w.alloc (.cells #[.int .i64 0, .slice none 0 0] 29) := ⟨_, rfl⟩
  have H0 : Hid (Blk w0 w.heap.size #[.int .i64 0, .slice none 0 0] 29 ∧ Below w.heap.size w w0) := by rw [hw0]; exact ⟨Blk.new rfl, (Below.refl _ _).alloc (Nat.le_refl _) _⟩
  go_enter Tryd.func19, Tryd.ntmps19
  go_wp2_with fail
  rw [← hw0]
  clear hw0
  refine Calls.mono (HF.out _) ?_
  rintro e w1 ⟨rfl, hw1⟩
  rw [← hw1] at H0
  clear hw1 HF
  go_wp2_with fail
  refine Calls.mono (code_any c _ (HE.out.later H0.out.2)) ?_
  rintro e w2 ⟨rfl, b1⟩
  have H2 : Hid (Blk w2 w.heap.size #[.int .i64 0, .slice none 0 0] 29 ∧ Below w.heap.size w w2) := ⟨H0.out.1.later b1, H0.out.2.trans (b1.mono H0.out.2.size)⟩
  clear b1 H0
  have c0 := H2.out.1.cell (j := 0) (v := .int .i64 0) rfl
  have c1 := H2.out.1.cell (j := 1) (v := .slice none 0 0) rfl
  have f0 := H2.out.1.frozen 0
  have f1 := H2.out.1.frozen 1
  go_wp2
  exact bodyPost_ret (v := .agg #[.int .i64 c, .slice none 0 0]) (by simp [results, Tryd.results19, go_sem, c0, c1]) rfl ⟨_, rfl, Or.inl ⟨rfl, rfl⟩, (H2.out.2.setCell (by simp) _).setCell (by simp) _⟩
set_option maxRecDepth 20000 in
set_option maxHeartbeats 3200000 in
theorem iSO_ok {w : World} {b off n cap M : Nat} {F : Nat → Int} (hc : ∀ i, i < n → w.cell? ⟨b, off + i, none⟩ = some (.int .i64 (F i))) (h1 : 0 < n) (h2 : n ≤ M) (h3 : M ≤ 60) (hE : Et w) : Sa 19 #[.slice (some ⟨b, off, none⟩) n cap, .int .i64 (M : Int)] w 0 M (so F n) := by
  unfold Sa
  have HC : Hid (∀ W, Below w.heap.size w W → ∀ i, i < n → W.cell? ⟨b, off + i, none⟩ = some (.int .i64 (F i))) := fun W hb i hi => (hb.cell (World.block_lt_of_cell? _ _ (hc i hi))).trans (hc i hi)
  have HF : Hid (∀ W, Calls Tryd.prog 82 #[.slice (some ⟨b, off, none⟩) n cap, .int .i64 (M : Int)] W fun e w' => e = .returned (er 0) ∧ w' = W) := fun W => by rw [← show shc n M = 0 by unfold shc; rw [if_neg (by omega), if_neg (by omega)]]; exact iSF_any _ n cap M W
  have HE : Hid (Et w) := hE
  have hmk := mk27 M (by omega)
  clear hc hE
  obtain ⟨w0, hw0⟩ : ∃ W, W = w.alloc (.cells #[.int .i64 0, .slice none 0 0] 29) := ⟨_, rfl⟩
  have H0 : Hid (Blk w0 w.heap.size #[.int .i64 0, .slice none 0 0] 29 ∧ Below w.heap.size w w0) := by rw [hw0]; exact ⟨Blk.new rfl, (Below.refl _ _).alloc (Nat.le_refl _) _⟩
  go_enter Tryd.func19, Tryd.ntmps19
  go_wp2_with fail
  rw [← hw0]
  clear hw0
  refine Calls.mono (HF.out _) ?_
  rintro e w1 ⟨rfl, hw1⟩
  rw [← hw1] at H0
  clear hw1 HF
  go_wp2_with fail
  refine Calls.mono (code_any 0 _ (HE.out.later H0.out.2)) ?_
  rintro e w2 ⟨rfl, b1⟩
  have H2 : Hid (Blk w2 w.heap.size #[.int .i64 0, .slice none 0 0] 29 ∧ Below w.heap.size w w2) := ⟨H0.out.1.later b1, H0.out.2.trans (b1.mono H0.out.2.size)⟩
  clear b1 H0
  have T0 : Hid (Lq w (w2.alloc (.cells (madeCells #[.int .i64 0, .int .i64 0] (M * 2)) 33)) w2.heap.size 0 M (so F n)) := Lq.made H2.out.1 H2.out.2
  obtain ⟨x0, hx0⟩ : ∃ W, W = w2.alloc (.cells (madeCells #[.int .i64 0, .int .i64 0] (M * 2)) 33) := ⟨_, rfl⟩
  rw [← hx0] at T0
  obtain ⟨B, hB⟩ : ∃ B, B = w2.heap.size := ⟨_, rfl⟩
  rw [← hB] at T0
  go_wp2_with fail
  rw [← hx0]
  rw [← hB]
  clear hx0 hmk hB H2
  go_loopw [19] (fun i wr => ∃ k : Nat, k ≤ M ∧ i = .int .i64 (k : Int) ∧ Hid (Lq w wr B k M (so F n))) (fun i _ => M - (intOf i).toNat)
  case atStart => exact ⟨0, Nat.zero_le _, rfl, T0⟩
  case round =>
    obtain ⟨k, hk, rfl, HL⟩ := hrel
    by_cases hkM : k < M
    · have q1 : (k : Int) < M := by omega
      have u1 : IntKind.i64.wrap ((k : Int) + 1) = (k : Int) + 1 := wr64' (by omega) (by omega)
      go_wp2_with fail
      refine Calls.mono (iVal_any (HC.out _ HL.out.below) ((k : Int) + 1) (by omega)) ?_
      rintro e x1 ⟨rfl, b1⟩
      have T1 : Hid (Lq w x1 B k M (so F n)) := HL.out.later b1
      clear b1 HL
      obtain ⟨y, hy⟩ : ∃ y, y = hv F ((k : Int) + 1) n n := ⟨_, rfl⟩
      have HY : Hid (y = hv F ((k : Int) + 1) n n) := hy
      rw [← hy]
      clear hy
      have a0 := T1.out.seg.cell hkM (show 0 < 2 by omega)
      have a1 := T1.out.seg.cell hkM (show 1 < 2 by omega)
      have fz : ∀ j, x1.frozen? ⟨B, j, none⟩ = false := fun j => T1.out.seg.frozen j
      simp only [Nat.add_zero, Nat.lt_irrefl, if_false] at a0 a1
      go_wp2
      go_roundw
      case rel => exact ⟨k + 1, by omega, by simp, T1.out.put hkM rfl HY.out⟩
      case measure => simp [intOf] <;> omega
    · obtain rfl : k = M := by omega
      have q1 : ¬ (k : Int) < k := by omega
      have c0 := HL.out.rbox.cell (j := 0) (v := .int .i64 0) rfl
      have c1 := HL.out.rbox.cell (j := 1) (v := .slice none 0 0) rfl
      have f0 := HL.out.rbox.frozen 0
      have f1 := HL.out.rbox.frozen 1
      go_wp2
      refine bodyPost_ret (v := .agg #[.int .i64 0, .slice (some ⟨B, 0, none⟩) k k]) (by simp [results, Tryd.results19, go_sem, c0, c1]) rfl ⟨_, rfl, ?_, (HL.out.below.setCell (by simp) _).setCell (by simp) _⟩
      have hlb := HL.out.lb
      have r2 := HL.out.seg.lt
      refine Or.inr ⟨B, k, rfl, by omega, by simpa using r2, ((HL.out.seg.congr fun i hi j _ => by simp [hi]).setOther (by omega) _).setOther (by omega) _⟩
/-- Both functions at one list. -/
theorem so_both (n : Nat) (F : Nat → Int) (M : Int) : ∃ (c : Int) (N : Nat) (G : Nat → Sh), N ≤ 60 ∧
    (∀ (W : World) (b off cap : Nat), (∀ i, i < n → W.cell? ⟨b, off + i, none⟩ = some (.int .i64 (F i))) → Sa 18 #[.slice (some ⟨b, off, none⟩) n cap, .int .i64 M] W c N G) ∧
    (∀ (W : World) (b off cap : Nat), (∀ i, i < n → W.cell? ⟨b, off + i, none⟩ = some (.int .i64 (F i))) → Et W → Sa 19 #[.slice (some ⟨b, off, none⟩) n cap, .int .i64 M] W c N G) := by
  by_cases hc : shc n M = 0
  · have h0 : ¬ (n = 0 ∨ M < n) := by intro h; unfold shc at hc; rw [if_pos h] at hc; omega
    have h1 : ¬ 60 < M := by intro h; unfold shc at hc; rw [if_neg h0, if_pos h] at hc; omega
    obtain ⟨m, rfl⟩ : ∃ m : Nat, M = m := ⟨M.toNat, by omega⟩
    exact ⟨0, m, so F n, by omega, fun W b off cap h => sSO_ok h (by omega) (by omega) (by omega), fun W b off cap h hE => iSO_ok h (by omega) (by omega) (by omega) hE⟩
  · refine ⟨shc n M, 0, so F n, by omega, fun W b off cap h => ?_, fun W b off cap h hE => iSO_bad hc hE _⟩
    by_cases h0 : n = 0
    · subst h0
      rw [show shc 0 M = 1 by simp [shc]]
      exact sSO_0 _
    by_cases h1 : M < n
    · rw [show shc n M = 1 by unfold shc; rw [if_pos (Or.inr h1)]]
      exact sSO_1 (by omega) h1 _
    by_cases h2 : 60 < M
    · rw [show shc n M = 2 by unfold shc; rw [if_neg (by omega), if_pos h2]]
      exact sSO_2 (by omega) (by omega) h2 _
    · exact absurd (by unfold shc; rw [if_neg (by omega), if_neg h2]) hc
end Go.Proofs.YtdknclkecbdpgaaDoor
