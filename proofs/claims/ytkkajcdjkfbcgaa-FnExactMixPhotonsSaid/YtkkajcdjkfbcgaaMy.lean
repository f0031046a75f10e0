/- Mixing: the whole, both packages. -/
import Derived.Test.YtkkajcdjkfbcgaaMx
import Derived.Handy
import Derived.Deep.RegionHeld3
namespace Go.Proofs.Ytkkajcdjkfbcgaa
open Go.RowKit
set_option linter.unusedVariables false
set_option linter.unusedSimpArgs false
def mcode (a b c u d n : Int) : Int := if amount a = true ∧ amount b = true ∧ amount c = true ∧ rate u = true ∧ rate d = true then (if stepsB n = true then 0 else 1) else 3
def mres (a b c u d n : Int) : M3 := if mcode a b c u d n = 0 then mrun u d ⟨a, b, c⟩ n.toNat else ⟨0, 0, 0⟩
theorem w64' {n : Int} (h0 : -9000000000000000000 ≤ n) (h1 : n ≤ 9000000000000000000) : wrap64 n = n := by unfold wrap64; omega
theorem mok0 {a b c : Int} (ha : amount a = true) (hb : amount b = true) (hc : amount c = true) : Mok ⟨a, b, c⟩ := by
  have := amount_t ha
  have := amount_t hb
  have := amount_t hc
  constructor <;> (simp only; omega)
theorem mbad3 {a b c u d n : Int} (h : ¬ (amount a = true ∧ amount b = true ∧ amount c = true ∧ rate u = true ∧ rate d = true)) : mcode a b c u d n = 3 ∧ mres a b c u d n = ⟨0, 0, 0⟩ := by
  have : mcode a b c u d n = 3 := by unfold mcode; rw [if_neg h]
  exact ⟨this, by unfold mres; rw [this]; rfl⟩
theorem mbad1 {a b c u d n : Int} (h : amount a = true ∧ amount b = true ∧ amount c = true ∧ rate u = true ∧ rate d = true) (hn : stepsB n = false) : mcode a b c u d n = 1 ∧ mres a b c u d n = ⟨0, 0, 0⟩ := by
  have : mcode a b c u d n = 1 := by unfold mcode; rw [if_pos h, hn]; rfl
  exact ⟨this, by unfold mres; rw [this]; rfl⟩
theorem mgood {a b c u d n : Int} (h : amount a = true ∧ amount b = true ∧ amount c = true ∧ rate u = true ∧ rate d = true) (hn : stepsB n = true) : mcode a b c u d n = 0 ∧ mres a b c u d n = mrun u d ⟨a, b, c⟩ n.toNat := by
  have : mcode a b c u d n = 0 := by unfold mcode; rw [if_pos h, if_pos hn]
  exact ⟨this, by unfold mres; rw [if_pos this]⟩
set_option maxRecDepth 20000 in
set_option maxHeartbeats 3200000 in
theorem mix_i (a b c u d n : Int) (w : World) : Calls Try.prog 51 #[.int .i64 a, .int .i64 b, .int .i64 c, .int .i64 u, .int .i64 d, .int .i64 n] w fun e w' => e = .returned (.agg #[.int .i64 (mcode a b c u d n), .int .i64 (mres a b c u d n).a, .int .i64 (mres a b c u d n).b, .int .i64 (mres a b c u d n).c]) ∧ Below w.heap.size w w' := by
  cases ha : amount a
  · rw [(mbad3 (a := a) (b := b) (c := c) (u := u) (d := d) (n := n) (by simp [ha])).1, (mbad3 (a := a) (b := b) (c := c) (u := u) (d := d) (n := n) (by simp [ha])).2]
    go_enter Try.func51, Try.ntmps51
    go_wp2_with fail
    refine (amount_i a _).mono ?_
    rintro e w1 ⟨rfl, rfl⟩
    rw [ha]
    go_wp2
    refine bodyPost_ret (v := .agg #[.int .i64 3, .int .i64 0, .int .i64 0, .int .i64 0]) (by simp [results, Try.results51, go_sem]) rfl ⟨rfl, by go_grown⟩
  cases hb : amount b
  · rw [(mbad3 (a := a) (b := b) (c := c) (u := u) (d := d) (n := n) (by simp [hb])).1, (mbad3 (a := a) (b := b) (c := c) (u := u) (d := d) (n := n) (by simp [hb])).2]
    go_enter Try.func51, Try.ntmps51
    go_wp2_with fail
    refine (amount_i a _).mono ?_
    rintro e w1 ⟨rfl, rfl⟩
    rw [ha]
    go_wp2_with fail
    refine (amount_i b _).mono ?_
    rintro e w1 ⟨rfl, rfl⟩
    rw [hb]
    go_wp2
    refine bodyPost_ret (v := .agg #[.int .i64 3, .int .i64 0, .int .i64 0, .int .i64 0]) (by simp [results, Try.results51, go_sem]) rfl ⟨rfl, by go_grown⟩
  cases hc : amount c
  · rw [(mbad3 (a := a) (b := b) (c := c) (u := u) (d := d) (n := n) (by simp [hc])).1, (mbad3 (a := a) (b := b) (c := c) (u := u) (d := d) (n := n) (by simp [hc])).2]
    go_enter Try.func51, Try.ntmps51
    go_wp2_with fail
    refine (amount_i a _).mono ?_
    rintro e w1 ⟨rfl, rfl⟩
    rw [ha]
    go_wp2_with fail
    refine (amount_i b _).mono ?_
    rintro e w1 ⟨rfl, rfl⟩
    rw [hb]
    go_wp2_with fail
    refine (amount_i c _).mono ?_
    rintro e w1 ⟨rfl, rfl⟩
    rw [hc]
    go_wp2
    refine bodyPost_ret (v := .agg #[.int .i64 3, .int .i64 0, .int .i64 0, .int .i64 0]) (by simp [results, Try.results51, go_sem]) rfl ⟨rfl, by go_grown⟩
  cases hu : rate u
  · rw [(mbad3 (a := a) (b := b) (c := c) (u := u) (d := d) (n := n) (by simp [hu])).1, (mbad3 (a := a) (b := b) (c := c) (u := u) (d := d) (n := n) (by simp [hu])).2]
    go_enter Try.func51, Try.ntmps51
    go_wp2_with fail
    refine (amount_i a _).mono ?_
    rintro e w1 ⟨rfl, rfl⟩
    rw [ha]
    go_wp2_with fail
    refine (amount_i b _).mono ?_
    rintro e w1 ⟨rfl, rfl⟩
    rw [hb]
    go_wp2_with fail
    refine (amount_i c _).mono ?_
    rintro e w1 ⟨rfl, rfl⟩
    rw [hc]
    go_wp2_with fail
    refine (rate_i u _).mono ?_
    rintro e w1 ⟨rfl, rfl⟩
    rw [hu]
    go_wp2
    refine bodyPost_ret (v := .agg #[.int .i64 3, .int .i64 0, .int .i64 0, .int .i64 0]) (by simp [results, Try.results51, go_sem]) rfl ⟨rfl, by go_grown⟩
  cases hd : rate d
  · rw [(mbad3 (a := a) (b := b) (c := c) (u := u) (d := d) (n := n) (by simp [hd])).1, (mbad3 (a := a) (b := b) (c := c) (u := u) (d := d) (n := n) (by simp [hd])).2]
    go_enter Try.func51, Try.ntmps51
    go_wp2_with fail
    refine (amount_i a _).mono ?_
    rintro e w1 ⟨rfl, rfl⟩
    rw [ha]
    go_wp2_with fail
    refine (amount_i b _).mono ?_
    rintro e w1 ⟨rfl, rfl⟩
    rw [hb]
    go_wp2_with fail
    refine (amount_i c _).mono ?_
    rintro e w1 ⟨rfl, rfl⟩
    rw [hc]
    go_wp2_with fail
    refine (rate_i u _).mono ?_
    rintro e w1 ⟨rfl, rfl⟩
    rw [hu]
    go_wp2_with fail
    refine (rate_i d _).mono ?_
    rintro e w1 ⟨rfl, rfl⟩
    rw [hd]
    go_wp2
    refine bodyPost_ret (v := .agg #[.int .i64 3, .int .i64 0, .int .i64 0, .int .i64 0]) (by simp [results, Try.results51, go_sem]) rfl ⟨rfl, by go_grown⟩
  cases hn : stepsB n
  · rw [(mbad1 ⟨ha, hb, hc, hu, hd⟩ hn).1, (mbad1 ⟨ha, hb, hc, hu, hd⟩ hn).2]
    go_enter Try.func51, Try.ntmps51
    go_wp2_with fail
    refine (amount_i a _).mono ?_
    rintro e w1 ⟨rfl, rfl⟩
    rw [ha]
    go_wp2_with fail
    refine (amount_i b _).mono ?_
    rintro e w1 ⟨rfl, rfl⟩
    rw [hb]
    go_wp2_with fail
    refine (amount_i c _).mono ?_
    rintro e w1 ⟨rfl, rfl⟩
    rw [hc]
    go_wp2_with fail
    refine (rate_i u _).mono ?_
    rintro e w1 ⟨rfl, rfl⟩
    rw [hu]
    go_wp2_with fail
    refine (rate_i d _).mono ?_
    rintro e w1 ⟨rfl, rfl⟩
    rw [hd]
    go_wp2_with fail
    refine (steps_i n _).mono ?_
    rintro e w1 ⟨rfl, rfl⟩
    rw [hn]
    go_wp2
    refine bodyPost_ret (v := .agg #[.int .i64 1, .int .i64 0, .int .i64 0, .int .i64 0]) (by simp [results, Try.results51, go_sem]) rfl ⟨rfl, by go_grown⟩
  rw [(mgood ⟨ha, hb, hc, hu, hd⟩ hn).1, (mgood ⟨ha, hb, hc, hu, hd⟩ hn).2]
  have HM : Hid (Mok ⟨a, b, c⟩) := mok0 ha hb hc
  have HU := rate_t hu
  have HD := rate_t hd
  have HN := stepsB_t hn
  obtain ⟨k, rfl⟩ := Int.eq_ofNat_of_zero_le HN.1
  have hk : k ≤ 1000 := by omega
  rw [Int.toNat_natCast]
  obtain ⟨s, hs⟩ : ∃ s, s = mrun u d ⟨a, b, c⟩ k := ⟨_, rfl⟩
  rw [← hs]
  have HS : Hid (s = mrun u d ⟨a, b, c⟩ k) := hs
  clear hs
  go_enter Try.func51, Try.ntmps51
  go_wp2_with fail
  refine (amount_i a _).mono ?_
  rintro e w1 ⟨rfl, rfl⟩
  rw [ha]
  go_wp2_with fail
  refine (amount_i b _).mono ?_
  rintro e w1 ⟨rfl, rfl⟩
  rw [hb]
  go_wp2_with fail
  refine (amount_i c _).mono ?_
  rintro e w1 ⟨rfl, rfl⟩
  rw [hc]
  go_wp2_with fail
  refine (rate_i u _).mono ?_
  rintro e w1 ⟨rfl, rfl⟩
  rw [hu]
  go_wp2_with fail
  refine (rate_i d _).mono ?_
  rintro e w1 ⟨rfl, rfl⟩
  rw [hd]
  go_wp2_with fail
  refine (steps_i k _).mono ?_
  rintro e w1 ⟨rfl, rfl⟩
  rw [hn]
  clear ha hb hc hu hd hn
  go_wp2_with fail
  refine (repeat_100 (I := fun i W => Blk W (w.heap.size + 1) (Mc (mrun u d ⟨a, b, c⟩ i) u d) 130 ∧ Blk W w.heap.size #[.int .i64 0, .int .i64 0, .int .i64 0, .int .i64 0] 85 ∧ Below w.heap.size w W ∧ W.heap.size = w.heap.size + 2) _ k hk _ ?_ ?_).mono ?_
  · rintro i W hi ⟨h1, h2, h3, h4⟩
    refine (mstep_i HU.1 HD.1 HU.2 HD.2 (mrun_ok HU.1 HD.1 HM.out i) _ W h1).mono ?_
    rintro e W' ⟨rfl, g1, g2, g3⟩
    exact ⟨rfl, g1, h2.under g2 (by omega), h3.trans (g2.below.mono (by omega)), by omega⟩
  · refine ⟨Blk.new (by simp), (Blk.new rfl).alloc _, ((Below.refl _ _).alloc (Nat.le_refl _) _).alloc (by simp) _, by simp⟩
  · rintro e W ⟨rfl, h1, h2, h3, h4⟩
    rw [← HS.out] at h1
    have HO : Hid (Below w.heap.size w W) := h3
    have c0 := h1.cell (j := 0) (v := .int .i64 0) rfl
    have c1 := h1.cell (j := 1) (v := .int .i64 s.a) rfl
    have c2 := h1.cell (j := 2) (v := .int .i64 s.b) rfl
    have c3 := h1.cell (j := 3) (v := .int .i64 s.c) rfl
    have d0 := h2.cell (j := 0) (v := .int .i64 0) rfl
    have d1 := h2.cell (j := 1) (v := .int .i64 0) rfl
    have d2 := h2.cell (j := 2) (v := .int .i64 0) rfl
    have d3 := h2.cell (j := 3) (v := .int .i64 0) rfl
    have f0 := h2.frozen 0
    have f1 := h2.frozen 1
    have f2 := h2.frozen 2
    have f3 := h2.frozen 3
    clear h1 h2 h3 HM HS
    go_wp2
    refine bodyPost_ret (v := .agg #[.int .i64 0, .int .i64 s.a, .int .i64 s.b, .int .i64 s.c]) (by simp [results, Try.results51, go_sem, d0, d1, d2, d3]) rfl ⟨rfl, ?_⟩
    exact (((HO.out.setCell (by simp) _).setCell (by simp) _).setCell (by simp) _).setCell (by simp) _
end Go.Proofs.Ytkkajcdjkfbcgaa
