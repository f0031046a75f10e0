/- Mixing: the whole, the specification. -/
import Derived.Test.YtkkajcdjkfbcgaaMy
import Derived.Handy
import Derived.Deep.RegionHeld3
namespace Go.Proofs.Ytkkajcdjkfbcgaa
open Go.RowKit
set_option linter.unusedVariables false
set_option linter.unusedSimpArgs false
set_option maxRecDepth 20000 in
set_option maxHeartbeats 6400000 in
theorem mix_s (a b c u d n : Int) (w : World) : Calls Try.prog 50 #[.int .i64 a, .int .i64 b, .int .i64 c, .int .i64 u, .int .i64 d, .int .i64 n] w fun e w' => e = .returned (.agg #[.int .i64 (mcode a b c u d n), .int .i64 (mres a b c u d n).a, .int .i64 (mres a b c u d n).b, .int .i64 (mres a b c u d n).c]) ∧ Below w.heap.size w w' := by
  cases ha : amount a
  · rw [(mbad3 (a := a) (b := b) (c := c) (u := u) (d := d) (n := n) (by simp [ha])).1, (mbad3 (a := a) (b := b) (c := c) (u := u) (d := d) (n := n) (by simp [ha])).2]
    by_cases hx : a < 0
    · go_enter Try.func50, Try.ntmps50
      go_wp2
      refine bodyPost_ret (v := .agg #[.int .i64 3, .int .i64 0, .int .i64 0, .int .i64 0]) (by simp [results, Try.results50, go_sem]) rfl ⟨rfl, by go_grown⟩
    · have hy : 1000000 < a := by simp [amount] at ha; omega
      go_enter Try.func50, Try.ntmps50
      go_wp2
      refine bodyPost_ret (v := .agg #[.int .i64 3, .int .i64 0, .int .i64 0, .int .i64 0]) (by simp [results, Try.results50, go_sem]) rfl ⟨rfl, by go_grown⟩
  cases hb : amount b
  · rw [(mbad3 (a := a) (b := b) (c := c) (u := u) (d := d) (n := n) (by simp [hb])).1, (mbad3 (a := a) (b := b) (c := c) (u := u) (d := d) (n := n) (by simp [hb])).2]
    have z0 := amount_t ha
    by_cases hx : b < 0
    · go_enter Try.func50, Try.ntmps50
      go_wp2
      refine bodyPost_ret (v := .agg #[.int .i64 3, .int .i64 0, .int .i64 0, .int .i64 0]) (by simp [results, Try.results50, go_sem]) rfl ⟨rfl, by go_grown⟩
    · have hy : 1000000 < b := by simp [amount] at hb; omega
      go_enter Try.func50, Try.ntmps50
      go_wp2
      refine bodyPost_ret (v := .agg #[.int .i64 3, .int .i64 0, .int .i64 0, .int .i64 0]) (by simp [results, Try.results50, go_sem]) rfl ⟨rfl, by go_grown⟩
  cases hc : amount c
  · rw [(mbad3 (a := a) (b := b) (c := c) (u := u) (d := d) (n := n) (by simp [hc])).1, (mbad3 (a := a) (b := b) (c := c) (u := u) (d := d) (n := n) (by simp [hc])).2]
    have z0 := amount_t ha
    have z1 := amount_t hb
    by_cases hx : c < 0
    · go_enter Try.func50, Try.ntmps50
      go_wp2
      refine bodyPost_ret (v := .agg #[.int .i64 3, .int .i64 0, .int .i64 0, .int .i64 0]) (by simp [results, Try.results50, go_sem]) rfl ⟨rfl, by go_grown⟩
    · have hy : 1000000 < c := by simp [amount] at hc; omega
      go_enter Try.func50, Try.ntmps50
      go_wp2
      refine bodyPost_ret (v := .agg #[.int .i64 3, .int .i64 0, .int .i64 0, .int .i64 0]) (by simp [results, Try.results50, go_sem]) rfl ⟨rfl, by go_grown⟩
  cases hu : rate u
  · rw [(mbad3 (a := a) (b := b) (c := c) (u := u) (d := d) (n := n) (by simp [hu])).1, (mbad3 (a := a) (b := b) (c := c) (u := u) (d := d) (n := n) (by simp [hu])).2]
    have z0 := amount_t ha
    have z1 := amount_t hb
    have z2 := amount_t hc
    go_enter Try.func50, Try.ntmps50
    go_wp2_with fail
    refine (rate_s u _).mono ?_
    rintro e w1 ⟨rfl, rfl⟩
    rw [hu]
    go_wp2
    refine bodyPost_ret (v := .agg #[.int .i64 3, .int .i64 0, .int .i64 0, .int .i64 0]) (by simp [results, Try.results50, go_sem]) rfl ⟨rfl, by go_grown⟩
  cases hd : rate d
  · rw [(mbad3 (a := a) (b := b) (c := c) (u := u) (d := d) (n := n) (by simp [hd])).1, (mbad3 (a := a) (b := b) (c := c) (u := u) (d := d) (n := n) (by simp [hd])).2]
    have z0 := amount_t ha
    have z1 := amount_t hb
    have z2 := amount_t hc
    go_enter Try.func50, Try.ntmps50
    go_wp2_with fail
    refine (rate_s u _).mono ?_
    rintro e w1 ⟨rfl, rfl⟩
    rw [hu]
    go_wp2_with fail
    refine (rate_s d _).mono ?_
    rintro e w1 ⟨rfl, rfl⟩
    rw [hd]
    go_wp2
    refine bodyPost_ret (v := .agg #[.int .i64 3, .int .i64 0, .int .i64 0, .int .i64 0]) (by simp [results, Try.results50, go_sem]) rfl ⟨rfl, by go_grown⟩
  have z0 := amount_t ha
  have z1 := amount_t hb
  have z2 := amount_t hc
  cases hn : stepsB n
  · rw [(mbad1 ⟨ha, hb, hc, hu, hd⟩ hn).1, (mbad1 ⟨ha, hb, hc, hu, hd⟩ hn).2]
    by_cases hx : n < 0
    · go_enter Try.func50, Try.ntmps50
      go_wp2_with fail
      refine (rate_s u _).mono ?_
      rintro e w1 ⟨rfl, rfl⟩
      rw [hu]
      go_wp2_with fail
      refine (rate_s d _).mono ?_
      rintro e w1 ⟨rfl, rfl⟩
      rw [hd]
      go_wp2
      refine bodyPost_ret (v := .agg #[.int .i64 1, .int .i64 0, .int .i64 0, .int .i64 0]) (by simp [results, Try.results50, go_sem]) rfl ⟨rfl, by go_grown⟩
    · have hy : 1000 < n := by simp [stepsB] at hn; omega
      go_enter Try.func50, Try.ntmps50
      go_wp2_with fail
      refine (rate_s u _).mono ?_
      rintro e w1 ⟨rfl, rfl⟩
      rw [hu]
      go_wp2_with fail
      refine (rate_s d _).mono ?_
      rintro e w1 ⟨rfl, rfl⟩
      rw [hd]
      go_wp2
      refine bodyPost_ret (v := .agg #[.int .i64 1, .int .i64 0, .int .i64 0, .int .i64 0]) (by simp [results, Try.results50, go_sem]) rfl ⟨rfl, by go_grown⟩
  rw [(mgood ⟨ha, hb, hc, hu, hd⟩ hn).1, (mgood ⟨ha, hb, hc, hu, hd⟩ hn).2]
  have HM : Hid (Mok ⟨a, b, c⟩) := mok0 ha hb hc
  have HU := rate_t hu
  have HD := rate_t hd
  have HN := stepsB_t hn
  obtain ⟨n, rfl⟩ := Int.eq_ofNat_of_zero_le HN.1
  have hk : n ≤ 1000 := by omega
  rw [Int.toNat_natCast]
  obtain ⟨s, hs⟩ : ∃ s, s = mrun u d ⟨a, b, c⟩ n := ⟨_, rfl⟩
  rw [← hs]
  have HS : Hid (s = mrun u d ⟨a, b, c⟩ n) := hs
  clear hs
  go_enter Try.func50, Try.ntmps50
  go_wp2_with fail
  refine (rate_s u _).mono ?_
  rintro e w1 ⟨rfl, rfl⟩
  rw [hu]
  go_wp2_with fail
  refine (rate_s d _).mono ?_
  rintro e w1 ⟨rfl, rfl⟩
  rw [hd]
  go_wp2_with fail
  clear ha hb hc hu hd hn z0 z1 z2
  go_loopw [0, 1, 2, 13] (fun va vb vc i wx => ∃ k : Nat, k ≤ n ∧ i = .int .i64 (k : Int) ∧ va = .int .i64 (mrun u d ⟨a, b, c⟩ k).a ∧ vb = .int .i64 (mrun u d ⟨a, b, c⟩ k).b ∧ vc = .int .i64 (mrun u d ⟨a, b, c⟩ k).c ∧ Hid (Blk wx w.heap.size #[.int .i64 0, .int .i64 0, .int .i64 0, .int .i64 0] 85 ∧ Below w.heap.size w wx)) (fun _ _ _ i _ => n - (intOf i).toNat)
  case atStart => exact ⟨0, Nat.zero_le _, rfl, rfl, rfl, rfl, Blk.new rfl, (Below.refl _ _).alloc (Nat.le_refl _) _⟩
  case round =>
    obtain ⟨k, hk, rfl, rfl, rfl, rfl, HB⟩ := hrel
    by_cases hkn : k < n
    · have HMk := mrun_ok HU.1 HD.1 HM.out k
      obtain ⟨p1, p2, p3, p4, p5⟩ := HMk.parts HU.1 HD.1
      obtain ⟨q0, q1⟩ := HMk.prod
      have r1 := tdiv_bd q0 HU.1
      have hN : mrun u d ⟨a, b, c⟩ (k + 1) = mst u d (mrun u d ⟨a, b, c⟩ k) := rfl
      obtain ⟨S, hS⟩ : ∃ S, S = mrun u d ⟨a, b, c⟩ k := ⟨_, rfl⟩
      rw [← hS] at p1 p2 p3 p4 p5 q0 q1 r1 hN HMk ⊢
      obtain ⟨a0, b0, c0, ac, bc⟩ := HMk
      obtain ⟨x, y, z⟩ := S
      simp only at *
      obtain ⟨P, hP⟩ : ∃ P, P = x * y := ⟨_, rfl⟩
      obtain ⟨D, hD⟩ : ∃ D, D = P.tdiv u := ⟨_, rfl⟩
      obtain ⟨L, hL⟩ : ∃ L, L = lsr x y := ⟨_, rfl⟩
      obtain ⟨X, hX⟩ : ∃ X, X = mj u ⟨x, y, z⟩ := ⟨_, rfl⟩
      obtain ⟨Y, hY⟩ : ∃ Y, Y = mp d ⟨x, y, z⟩ := ⟨_, rfl⟩
      have e1 : x * y = P := hP.symm
      have e2 : P.tdiv u = D := hD.symm
      have e3 : z.tdiv d = Y := hY.symm
      have m1 : ∀ W, Calls Try.prog 95 #[.int .i64 x, .int .i64 y] W fun e w' => e = .returned (.int .i64 L) ∧ W = w' := fun W => by rw [hL]; exact min_s x y W
      have m2 : ∀ W, Calls Try.prog 95 #[.int .i64 L, .int .i64 D] W fun e w' => e = .returned (.int .i64 X) ∧ W = w' := fun W => by
        have := min_s L D W
        rwa [show lsr L D = X by rw [hX, hL, hD, hP]; rfl] at this
      have M1 : Hid (∀ W, Calls Try.prog 95 #[.int .i64 x, .int .i64 y] W fun e w' => e = .returned (.int .i64 L) ∧ W = w') := m1
      have M2 : Hid (∀ W, Calls Try.prog 95 #[.int .i64 L, .int .i64 D] W fun e w' => e = .returned (.int .i64 X) ∧ W = w') := m2
      have HR : Hid (mrun u d ⟨a, b, c⟩ (k + 1) = ⟨x + (Y - X), y + (Y - X), z + (X - Y)⟩) := by show _ = _; rw [hN, hX, hY]; rfl
      rw [← hX] at p1 p2 p3
      rw [← hY] at p4 p5
      rw [← hP] at q0 q1 r1
      rw [← hD] at r1
      obtain ⟨r1, r2⟩ := r1
      have hu0 : ¬ u = 0 := by omega
      have hd0 : ¬ d = 0 := by omega
      have hwP : IntKind.i64.wrap P = P := by rw [IntKind.wrap_i64]; omega
      clear hN hS hX hY hP hD hL m1 m2 HM HS
      go_wp2_with fail
      go_quiet (first | (go_at_call 95; exact quiet_eq (M2.out _)) | (go_at_call 95; exact quiet_eq (M1.out _)))
      go_wp2
      go_roundw
      case rel =>
        refine ⟨k + 1, by omega, by simp, ?_, ?_, ?_, ?_⟩
        · rw [HR.out]; simp only; congr 1; omega
        · rw [HR.out]; simp only; congr 1; omega
        · rw [HR.out]; simp only; congr 1; omega
        · exact ⟨HB.out.1.drewN _, below_drewN HB.out.2 _⟩
      case measure => simp [intOf]; omega
    · obtain rfl : k = n := by omega
      rw [← HS.out]
      obtain ⟨h2, h3⟩ := HB.out
      have HO : Hid (Below w.heap.size w wr) := h3
      have d0 := h2.cell (j := 0) (v := .int .i64 0) rfl
      have d1 := h2.cell (j := 1) (v := .int .i64 0) rfl
      have d2 := h2.cell (j := 2) (v := .int .i64 0) rfl
      have d3 := h2.cell (j := 3) (v := .int .i64 0) rfl
      have f0 := h2.frozen 0
      have f1 := h2.frozen 1
      have f2 := h2.frozen 2
      have f3 := h2.frozen 3
      clear h2 h3 HM HS HB
      go_wp2
      refine bodyPost_ret (v := .agg #[.int .i64 0, .int .i64 s.a, .int .i64 s.b, .int .i64 s.c]) (by simp [results, Try.results50, go_sem, d0, d1, d2, d3]) rfl ⟨rfl, ?_⟩
      exact (((HO.out.setCell (by simp) _).setCell (by simp) _).setCell (by simp) _).setCell (by simp) _
end Go.Proofs.Ytkkajcdjkfbcgaa
