/- Fields that do not know of one another: the program's mix. -/
import Derived.Test.YtgidoceflkdklaaMx
import Derived.Deep.RegionHeld3
import Derived.Handy
namespace Go.Proofs.Ytgidoceflkdklaa
open Go.RowKit Fl
set_option linter.unusedVariables false
set_option linter.unusedSimpArgs false
/-- What the mix looks like: k fields are in it, and of the next one the numbers below j. -/
structure Xm (w wr : World) (o : Nat → Nat → Option Nat × Option Nat) (F : Nat → Nat → Nat) (N k j : Nat) : Prop where
  seg : SegM wr (w.heap.size + 1) 75 N 2 F
  cls : ∀ i, i < N → Fc (F i 0) (mixS o i (if i < j then k + 1 else k)) ∧ F i 1 = 0
  res : Blk wr w.heap.size #[.int .i64 0, .slice none 0 0] 36
  below : Below w.heap.size w wr
theorem Xm.later {w wr w' : World} {o : Nat → Nat → Option Nat × Option Nat} {F : Nat → Nat → Nat} {N k j : Nat} (h : Xm w wr o F N k j) (b : Below wr.heap.size wr w') : Xm w w' o F N k j :=
  ⟨h.seg.below b, h.cls, h.res.old b, h.below.trans (b.mono h.below.size)⟩
theorem Xm.next {w wr : World} {o : Nat → Nat → Option Nat × Option Nat} {F : Nat → Nat → Nat} {N k : Nat} (h : Xm w wr o F N k N) : Xm w wr o F N (k + 1) 0 :=
  ⟨h.seg, fun i hi => by have := h.cls i hi; rw [if_pos hi] at this; simpa using this, h.res, h.below⟩
def up0 (F : Nat → Nat → Nat) (j x : Nat) : Nat → Nat → Nat := fun i l => if i = j ∧ l = 0 then x else F i l
theorem Xm.step {w wr : World} {o : Nat → Nat → Option Nat × Option Nat} {F : Nat → Nat → Nat} {N k j z : Nat} (h : Xm w wr o F N k j) (hj : j < N) (hz : Fc z (opC .add (mixS o j k) (normC (o k j)))) :
    Xm w (wr.setCell ⟨w.heap.size + 1, j * 2, none⟩ (.float .f64 z)) o (up0 F j z) N k (j + 1) := by
  refine ⟨?_, fun i hi => ?_, h.res.setOther (by simp) _, h.below.setCell (by simp) _⟩
  · have := h.seg.set hj (show 0 < 2 by omega) z
    rw [Nat.add_zero] at this
    exact this
  · have := h.cls i hi
    unfold up0
    by_cases e : i = j
    · subst e
      simp only [true_and, if_true]
      refine ⟨?_, by simpa using this.2⟩
      rw [if_pos (by omega)]
      exact hz
    · simp only [e, false_and, if_false]
      refine ⟨?_, this.2⟩
      by_cases e2 : i < j
      · rw [if_pos (by omega)]; rw [if_pos e2] at this; exact this.1
      · rw [if_neg (by omega)]; rw [if_neg e2] at this; exact this.1
theorem Xm.told {w W : World} {o : Nat → Nat → Option Nat × Option Nat} {F : Nat → Nat → Nat} {N n : Nat} (h : Xm w W o F N n 0) (cap : Nat) (x y : Value) : OwZ w.heap.size ((W.setCell ⟨w.heap.size, 0, none⟩ x).setCell ⟨w.heap.size, 1, none⟩ y).heap.size ((W.setCell ⟨w.heap.size, 0, none⟩ x).setCell ⟨w.heap.size, 1, none⟩ y) (.slice (some ⟨w.heap.size + 1, 0, none⟩) N cap) N F ∧ (∀ i, i < N → Zc (F i 0) (F i 1) (mixC o n i)) ∧ Below w.heap.size w ((W.setCell ⟨w.heap.size, 0, none⟩ x).setCell ⟨w.heap.size, 1, none⟩ y) := by
  refine ⟨Or.inr ⟨_, _, rfl, by omega, by simpa using h.seg.lt, (h.seg.setOther (by omega) _).setOther (by omega) _⟩, fun i hi => ?_, (h.below.setCell (Nat.le_refl _) _).setCell (Nat.le_refl _) _⟩
  have := h.cls i hi
  rw [if_neg (by omega)] at this
  rw [this.2]
  have h1 := this.1.2
  exact ⟨this.1.1, by decide, by rw [h1]; rfl⟩
set_option maxRecDepth 20000 in
set_option maxHeartbeats 3200000 in
theorem iMix_bad (b off n cap : Nat) (R : Nat → Value) (L : Nat → Nat) (w : World) (hn : n ≤ 1000000000000) (hc : ∀ i, i < n → w.cell? ⟨b, off + i, none⟩ = some (R i) ∧ ∃ ao c, R i = .slice ao (L i) c) (h : mf n L ≠ 0) :
    ZX 51 #[.slice (some ⟨b, off, none⟩) n cap] w (mf n L) 0 (fun _ => (none, none)) := by
  unfold ZX
  have A : Hid (∀ W, Below w.heap.size w W → Calls Try.prog 75 #[.slice (some ⟨b, off, none⟩) n cap] W fun e w' => e = .returned (.int .i64 (mf n L)) ∧ W = w') := fun W hb => iModes_any b off n cap R L W hn fun i hi => ⟨(hb.cell (World.block_lt_of_cell? _ _ (hc i hi).1)).trans (hc i hi).1, (hc i hi).2⟩
  clear hc
  generalize mf n L = c at *
  have hcc : (c != 0) = true := by rw [bne_iff_ne]; exact h
  clear h
  go_enter Try.func51, Try.ntmps51
  go_wp2_with (first | (go_at_call 75; refine (A.out _ (by go_grown)).mono ?_; rintro e w1 ⟨rfl, rfl⟩))
  refine bodyPost_ret (v := Zl c (.slice none 0 0)) (by simp [results, Try.results51, go_sem]) rfl ⟨_, fun _ _ => 0, rfl, Or.inl ⟨rfl, rfl⟩, fun i hi => by omega, ?_⟩
  go_grown
set_option maxRecDepth 20000 in
set_option maxHeartbeats 6400000 in
theorem iMix_good (b off n cap : Nat) (R : Nat → Value) (L : Nat → Nat) (F0 : Nat → Nat → Nat → Nat) (o : Nat → Nat → Option Nat × Option Nat) (w : World) (h : mf n L = 0)
    (hc : ∀ i, i < n → w.cell? ⟨b, off + i, none⟩ = some (R i) ∧ RdM w (R i) (L i) 2 (F0 i)) (hf : ∀ i, i < n → ∀ j, j < L i → Zc (F0 i j 0) (F0 i j 1) (o i j)) :
    ZX 51 #[.slice (some ⟨b, off, none⟩) n cap] w 0 (L 0) (mixC o n) := by
  unfold ZX
  obtain ⟨hn0, hn1, hall⟩ := mf_ok h
  have A : Hid (∀ W, Below w.heap.size w W → Calls Try.prog 75 #[.slice (some ⟨b, off, none⟩) n cap] W fun e w' => e = .returned (.int .i64 0) ∧ W = w') := fun W hb => by
    have := iModes_any b off n cap R L W (by omega) fun i hi => ⟨(hb.cell (World.block_lt_of_cell? _ _ (hc i hi).1)).trans (hc i hi).1, (hc i hi).2.form⟩
    rw [h] at this
    exact this
  have hle := Wv.wf_le (hall 0 hn0).1
  obtain ⟨N, hN⟩ : ∃ N, N = L 0 := ⟨_, rfl⟩
  rw [← hN] at hle ⊢
  have HR : Hid (∀ i, i < n → ∃ bi oi ci, w.cell? ⟨b, off + i, none⟩ = some (.slice (some ⟨bi, oi, none⟩) N ci) ∧ (∀ j, j < N → ∀ l, l < 2 → w.cell? ⟨bi, oi + j * 2 + l, none⟩ = some (.float .f64 (F0 i j l))) ∧ ∀ j, j < N → Zc (F0 i j 0) (F0 i j 1) (o i j)) := by
    intro i hi
    have hLi : L i = N := by rw [hN]; exact (hall i hi).2
    obtain ⟨h1, h2⟩ := hc i hi
    have h3 := hf i hi
    rw [hLi] at h2 h3
    rcases h2 with ⟨_, _, _, e⟩ | ⟨bi, oi, ci, e, h4⟩
    · omega
    · exact ⟨bi, oi, ci, by rw [h1, e], h4, h3⟩
  clear hc hf h hall hN
  have hst := st64
  have hmk := make28 N (by omega)
  have g00 : ∃ bi oi ci, ∀ W, Below w.heap.size w W → W.cell? ⟨b, off, none⟩ = some (.slice (some ⟨bi, oi, none⟩) N ci) := by
    obtain ⟨bi, oi, ci, e, _⟩ := HR.out 0 hn0
    exact ⟨bi, oi, ci, fun W hb => (hb.cell (World.block_lt_of_cell? _ _ e)).trans e⟩
  obtain ⟨b0, o0, c0, g0⟩ := g00
  have g1 := g0 (w.alloc (.cells #[.int .i64 0, .slice none 0 0] 36)) ((Below.refl _ _).alloc (Nat.le_refl _) _)
  clear g0
  go_enter Try.func51, Try.ntmps51
  go_wp2_with (first | (go_at_call 75; refine (A.out _ (by go_grown)).mono ?_; rintro e w1 ⟨rfl, rfl⟩))
  clear A hmk g1
  go_loopw [22] (fun i wr => ∃ (k : Nat) (F : Nat → Nat → Nat), k ≤ n ∧ i = .int .i64 k ∧ Hid (Xm w wr o F N k 0)) (fun i _ => n - (intOf i).toNat)
  case atStart =>
    refine ⟨0, fun _ _ => 0, Nat.zero_le _, rfl, ⟨?_, fun i hi => ⟨⟨by decide, by rw [if_neg (by omega)]; rfl⟩, rfl⟩, (Blk.new rfl).alloc _, ((Below.refl _ _).alloc (Nat.le_refl _) _).alloc (by simp) _⟩⟩
    have h := seg_made28 (w.alloc (.cells #[.int .i64 0, .slice none 0 0] 36)) N
    rw [show (w.alloc (.cells #[.int .i64 0, .slice none 0 0] 36)).heap.size = w.heap.size + 1 by simp] at h
    exact h
  case round =>
    obtain ⟨k, F, hk, rfl, HX⟩ := hrel
    by_cases hkn : k < n
    · obtain ⟨bi, oi, ci, e1, e2, e3⟩ := HR.out k hkn
      have g1 : wr.cell? ⟨b, off + k, none⟩ = some (.slice (some ⟨bi, oi, none⟩) N ci) := (HX.out.below.cell (World.block_lt_of_cell? _ _ e1)).trans e1
      have HC : Hid (∀ j, j < N → ∀ l, l < 2 → w.cell? ⟨bi, oi + j * 2 + l, none⟩ = some (.float .f64 (F0 k j l))) := e2
      have HZ : Hid (∀ j, j < N → Zc (F0 k j 0) (F0 k j 1) (o k j)) := e3
      clear e1 e2 e3 HR
      go_wp2_with fail
      clear g1
      obtain ⟨wo, hwo⟩ : ∃ W, W = wr := ⟨_, rfl⟩
      rw [← hwo] at HX ⊢
      clear hwo
      go_loopw [28] (fun i wr => ∃ (j : Nat) (F : Nat → Nat → Nat), j ≤ N ∧ i = .int .i64 j ∧ Hid (Xm w wr o F N k j)) (fun i _ => N - (intOf i).toNat)
      case atStart => exact ⟨0, F, Nat.zero_le _, rfl, HX⟩
      case round =>
        obtain ⟨j, G, hj, rfl, HY⟩ := hrel
        clear HX
        by_cases hjn : j < N
        · have hz := HZ.out j hjn
          have p0 : wr.cell? ⟨bi, oi + j * 2, none⟩ = some (.float .f64 (F0 k j 0)) := (HY.out.below.cell (World.block_lt_of_cell? _ _ (HC.out j hjn 0 (by omega)))).trans (HC.out j hjn 0 (by omega))
          have p1 : wr.cell? ⟨bi, oi + j * 2 + 1, none⟩ = some (.float .f64 (F0 k j 1)) := (HY.out.below.cell (World.block_lt_of_cell? _ _ (HC.out j hjn 1 (by omega)))).trans (HC.out j hjn 1 (by omega))
          clear HC HZ
          go_upto_region 11 with fail
          obtain ⟨Y, hY⟩ : ∃ Y, Y = wr.alloc (.cells #[.float .f64 (F0 k j 0), .float .f64 (F0 k j 1)] 75) := ⟨_, rfl⟩
          rw [← hY]
          have B0 : Hid (Blk Y wr.heap.size #[.float .f64 (F0 k j 0), .float .f64 (F0 k j 1)] 75) := by show Blk _ _ _ _; rw [hY]; exact Blk.new rfl
          have XY : Hid (Xm w Y o G N k j) := by rw [hY]; exact HY.out.later ((Below.refl _ _).alloc (Nat.le_refl _) _)
          clear hY HY p0 p1
          have q0 : Y.cell? ⟨wr.heap.size, 0, none⟩ = some (.float .f64 (F0 k j 0)) := B0.out.cell (j := 0) rfl
          have q1 : Y.cell? ⟨wr.heap.size, 1, none⟩ = some (.float .f64 (F0 k j 1)) := B0.out.cell (j := 1) rfl
          have r0 : Y.cell? ⟨w.heap.size + 1, j * 2, none⟩ = some (.float .f64 (G j 0)) := XY.out.seg.cell hjn (show 0 < 2 by omega)
          have hx : Hid (Fc (G j 0) (mixS o j k)) := by have := (XY.out.cls j hjn).1; rw [if_neg (by omega)] at this; exact this
          go_region_law (first | (go_simp; go_at_call 74; refine (iNorm_any hz _).mono ?_; rintro e w1 ⟨y, rfl, hy, hb1⟩; obtain ⟨z, q, hzz, cz⟩ := flop .add (by simp) hx.out hy w1; have XW : Hid (Xm w (w1.drewN q) o G N k j) := XY.out.later ((((Below.refl _ _).drew).trans hb1).trans (below_drewN (Below.refl _ _) q |>.mono hb1.size)); have s0 : w1.cell? ⟨w.heap.size + 1, j * 2, none⟩ = some (.float .f64 (G j 0)) := (XY.out.later (((Below.refl _ _).drew).trans hb1)).seg.cell hjn (show 0 < 2 by omega); have s1 : (w1.drewN q).cell? ⟨w.heap.size + 1, j * 2, none⟩ = some (.float .f64 (G j 0)) := XW.out.seg.cell hjn (show 0 < 2 by omega); have s2 : (w1.drewN q).frozen? ⟨w.heap.size + 1, j * 2, none⟩ = false := XW.out.seg.frozen _))
          all_goals
            have HN : Hid (Xm w ((w1.drewN q).setCell ⟨w.heap.size + 1, j * 2, none⟩ (.float .f64 z)) o (up0 G j z) N k (j + 1)) := XW.out.step hjn cz
            clear XW XY s0 s1 s2 r0 q0 q1 B0 hb1 cz hy hx hz
            go_wp2
            refine ⟨⟨j + 1, _, by omega, by simp, HN⟩, by simp [intOf]; omega⟩
        · obtain rfl : j = N := by omega
          clear HC HZ
          go_wp2
          go_roundw
          case rel => exact ⟨k + 1, G, by omega, by simp, HY.out.next⟩
          case measure => simp [intOf]; omega
    · obtain rfl : k = n := by omega
      have c0 := HX.out.res.cell (j := 0) (v := .int .i64 0) rfl
      have c1 := HX.out.res.cell (j := 1) (v := .slice none 0 0) rfl
      have f0 := HX.out.res.frozen 0
      have f1 := HX.out.res.frozen 1
      clear HR
      go_wp2
      refine bodyPost_ret (v := Zl 0 (.slice (some ⟨w.heap.size + 1, 0, none⟩) N N)) (by simp [results, Try.results51, go_sem, c0, c1]) rfl ⟨_, F, rfl, HX.out.told _ _ _⟩
end Go.Proofs.Ytgidoceflkdklaa
