/- Terms on the pupil: the program. -/
import Derived.Test.YtcmgafgboepllaaPw
namespace Go.Proofs.Ytcmgafgboepllaa
open Go.RowKit Fl
set_option linter.unusedVariables false
set_option linter.unusedSimpArgs false
theorem isDeg_any (d : Int) (w : World) : Calls Try.prog 70 #[.int .i64 d] w fun e w' => e = .returned (.bool (decide (0 ≤ d ∧ d ≤ 5))) ∧ w = w' := by
  go_enter Try.func70, Try.ntmps70
  by_cases h0 : 0 ≤ d
  · by_cases h5 : d ≤ 5
    · have e : decide (0 ≤ d ∧ d ≤ 5) = true := by simp [h0, h5]
      rw [e]
      go_wp2
      go_ret
      exact ⟨rfl, rfl⟩
    · have e : decide (0 ≤ d ∧ d ≤ 5) = false := by simp [h5]
      rw [e]
      go_wp2
      go_ret
      exact ⟨rfl, rfl⟩
  · have e : decide (0 ≤ d ∧ d ≤ 5) = false := by simp [h0]
    rw [e]
    go_wp2
    go_ret
    exact ⟨rfl, rfl⟩
theorem termCount_any (D : Nat) (h : D ≤ 5) (w : World) : Calls Try.prog 71 #[.int .i64 D] w fun e w' => e = .returned (.int .i64 (((D + 1) * (D + 2) / 2 : Nat) : Int)) ∧ w = w' := by
  match D, h with
  | 0, _ =>
    go_enter Try.func71, Try.ntmps71
    go_wp2
    go_ret
    exact ⟨rfl, rfl⟩
  | 1, _ =>
    go_enter Try.func71, Try.ntmps71
    go_wp2
    go_ret
    exact ⟨rfl, rfl⟩
  | 2, _ =>
    go_enter Try.func71, Try.ntmps71
    go_wp2
    go_ret
    exact ⟨rfl, rfl⟩
  | 3, _ =>
    go_enter Try.func71, Try.ntmps71
    go_wp2
    go_ret
    exact ⟨rfl, rfl⟩
  | 4, _ =>
    go_enter Try.func71, Try.ntmps71
    go_wp2
    go_ret
    exact ⟨rfl, rfl⟩
  | 5, _ =>
    go_enter Try.func71, Try.ntmps71
    go_wp2
    go_ret
    exact ⟨rfl, rfl⟩
set_option maxRecDepth 20000 in
set_option maxHeartbeats 3200000 in
theorem iTerms_none {x y : Nat} (d : Int) (hd : d < 0 ∨ 5 < d) (w : World) : Calls Try.prog 29 #[.int .i64 d, .float .f64 x, .float .f64 y] w fun e w' => e = .returned (.slice none 0 0) ∧ w = w' := by
  have H70 : Hid (∀ W, Calls Try.prog 70 #[.int .i64 d] W fun e w' => e = .returned (.bool false) ∧ W = w') := fun W => by
    have := isDeg_any d W
    rwa [show decide (0 ≤ d ∧ d ≤ 5) = false by simp; omega] at this
  go_enter Try.func29, Try.ntmps29
  go_wp2_with (go_at_call 70; refine (H70.out _).mono ?_; rintro e w1 ⟨rfl, rfl⟩)
  go_ret
  exact ⟨rfl, rfl⟩
set_option maxRecDepth 20000 in
set_option maxHeartbeats 6400000 in
theorem iTerms_some {x y : Nat} {X Y : Option Nat} (hx : Fc x X) (hy : Fc y Y) (D : Nat) (hD : D ≤ 5) (w : World) : Calls Try.prog 29 #[.int .i64 D, .float .f64 x, .float .f64 y] w fun e w' => ∃ v, e = .returned v ∧ PS w w' v (allC X Y (D + 1)) := by
  have HX : Hid (Fc x X ∧ Fc y Y) := ⟨hx, hy⟩
  clear hx hy
  have hDI : (D : Int) ≤ 5 := by omega
  obtain ⟨C, hC⟩ : ∃ C : Nat, C = (D + 1) * (D + 2) / 2 := ⟨_, rfl⟩
  have hC2 : C ≤ 21 := by
    have h1 : (D + 1) * (D + 2) ≤ 6 * 7 := Nat.mul_le_mul (by omega) (by omega)
    omega
  have H70 : Hid (∀ W, Calls Try.prog 70 #[.int .i64 D] W fun e w' => e = .returned (.bool true) ∧ W = w') := fun W => by
    have := isDeg_any D W
    rwa [show decide ((0 : Int) ≤ D ∧ (D : Int) ≤ 5) = true by simp; omega] at this
  have H71 : Hid (∀ W, Calls Try.prog 71 #[.int .i64 D] W fun e w' => e = .returned (.int .i64 C) ∧ W = w') := fun W => by rw [hC]; exact termCount_any D hD W
  have hmk : (Instr.makeSlice 34 (.int .i64 0) (.int .i64 (C : Int))).run Try.prog w = .ok (.slice (some ⟨w.heap.size, 0, none⟩) 0 C) (w.alloc (.cells (madeCells #[.float .f64 0] (C * 1)) 24)) := by
    obtain ⟨i, hi, hz, hs, hb⟩ := info_parts info24
    have hr := run_make (P := Try.prog) w 34 24 i _ Try.underlying34 hi hz .i64 .i64 0 C (by omega) (by omega) (by rw [hb]; omega) (by omega)
    rw [hs] at hr
    simpa [Value.cells] using hr
  clear hC
  go_enter Try.func29, Try.ntmps29
  go_wp2_with (first | (go_at_call 70; refine (H70.out _).mono ?_; rintro e w1 ⟨rfl, rfl⟩) | (go_at_call 71; refine (H71.out _).mono ?_; rintro e w1 ⟨rfl, rfl⟩))
  go_loopw [7, 18] (fun s i wr => ∃ d : Nat, d ≤ D + 1 ∧ i = .int .i64 (d : Int) ∧ Hid (PS w wr s (allC X Y d))) (fun _ i _ => D + 1 - (intOf i).toNat)
  case atStart => exact ⟨0, Nat.zero_le _, rfl, ⟨[], Fcs.nil, by have h := owns_made w #[.float .f64 0] C 1 24 (by unfold maxLen; omega); rw [Nat.mul_one] at h; exact h⟩, (Below.refl _ _).alloc (Nat.le_refl _) _⟩
  case round =>
    clear hmk
    obtain ⟨d, hd, rfl, HP⟩ := hrel
    by_cases hdD : d ≤ D
    · have hdI : (d : Int) ≤ D := by omega
      have hdJ : (d : Int) < D + 1 := by omega
      go_wp2_with fail
      go_loopw [7, 23] (fun s i wx => ∃ k : Nat, k ≤ d + 1 ∧ i = .int .i64 (k : Int) ∧ Hid (PS w wx s (allC X Y d ++ rowC X Y d k))) (fun _ i _ => d + 1 - (intOf i).toNat)
      case atStart => exact ⟨0, Nat.zero_le _, rfl, by rw [show rowC X Y d 0 = [] from rfl, List.append_nil]; exact HP⟩
      case round =>
        clear HP
        obtain ⟨k, hk, rfl, HP⟩ := hrel
        by_cases hkd : k ≤ d
        · have hkI : (k : Int) ≤ d := by omega
          have hkJ : (k : Int) < d + 1 := by omega
          have hcv : ((d : Int) - k) = ((d - k : Nat) : Int) := by omega
          have hd0 : (d : Int) ≤ 5 := by omega
          go_wp2_with fail
          try rw [hcv]
          refine (iPow_any HX.out.1 (d - k) (by omega) _).mono ?_
          rintro e w1 ⟨p1, rfl, f1, b1⟩
          have HP1 : Hid (Fc p1 (powC X (d - k)) ∧ Below wr.heap.size wr w1) := ⟨f1, b1⟩
          clear f1 b1
          go_wp2_with fail
          refine (iPow_any HX.out.2 k (by omega) _).mono ?_
          rintro e w2 ⟨p2, rfl, f2, b2⟩
          obtain ⟨p3, q3, r3, f3⟩ := flop .mul (by simp) HP1.out.1 f2 w2
          obtain ⟨w3, hw3⟩ : ∃ W, W = w2.drewN q3 := ⟨_, rfl⟩
          rw [← hw3] at r3
          obtain ⟨ts, t1, t2⟩ := HP.out.h
          have B3 : Below wr.heap.size wr w3 := by rw [hw3]; exact below_drewN (HP1.out.2.trans (b2.mono HP1.out.2.size)) q3
          have O3 : Hid (w3.ownsRow w.heap.size 24 1 u7 ts.length (ts.map (Value.float .f64))) := owns_later t2 B3
          have Z3 : w.heap.size ≤ w3.heap.size := Nat.le_trans HP.out.b.size B3.size
          have L3 : ts.length ≤ 100 := by
            have e := t1.len
            rw [List.length_append, allC_len, rowC_len] at e
            have := trm_le (d := d) (by omega)
            omega
          have HQ : Hid (Fcs (ts ++ [p3]) (allC X Y d ++ rowC X Y d (k + 1)) ∧ Below w.heap.size w w3) := ⟨by rw [rowC, ← List.append_assoc]; exact t1.push f3, HP.out.b.trans (B3.mono HP.out.b.size)⟩
          clear hw3 f3 f2 b2 t1 t2 B3 HP HP1
          go_wp2_with (first | (at_builtin; refine push_law rfl (.tmp 26) (.tmp 36) 34 rfl 24 (.float .f64 0) 1 8 Try.underlying34 info24 rfl (by decide) (by decide) w3 [.float .f64 p3] rfl (by simp [Value.oneCell']) w.heap.size u7 ts.length _ rfl O3.out 1 rfl (by omega) Z3 ?_; intro v1 w4 own4 grow4 nn4))
          have HN : Hid (PS w w4 v1 (allC X Y d ++ rowC X Y d (k + 1))) := ⟨⟨ts ++ [p3], HQ.out.1, by rw [List.length_append, List.map_append]; exact own4⟩, push_below O3.out grow4 HQ.out.2 Z3⟩
          clear own4 grow4 nn4 O3 HQ Z3 L3
          go_wp2
          exact ⟨⟨k + 1, by omega, by simp, HN⟩, by simp [intOf]; omega⟩
        · obtain rfl : k = d + 1 := by omega
          have HN : Hid (PS w wr u7 (allC X Y (d + 1))) := HP
          clear HP
          
          go_wp2
          exact ⟨⟨d + 1, by omega, by simp, HN⟩, by simp [intOf]; omega⟩
    · obtain rfl : d = D + 1 := by omega
      go_wp2
      go_ret
      exact ⟨_, rfl, HP.out⟩
theorem iTerms_any {x y : Nat} {X Y : Option Nat} (hx : Fc x X) (hy : Fc y Y) (d : Int) (w : World) : TV 29 #[.int .i64 d, .float .f64 x, .float .f64 y] w (degC X Y d) := by
  unfold TV degC
  by_cases h : d < 0 ∨ 5 < d
  · rw [if_pos h]
    refine (iTerms_none d h w).mono ?_
    rintro e w1 ⟨rfl, rfl⟩
    exact ⟨_, fun _ => 0, rfl, tv_nil, fun i hi => absurd hi (Nat.not_lt_zero _), Below.refl _ _⟩
  · rw [if_neg h]
    obtain ⟨D, rfl⟩ := Int.eq_ofNat_of_zero_le (show 0 ≤ d by omega)
    refine (iTerms_some hx hy D (by omega) w).mono ?_
    rintro e w1 ⟨v, rfl, hp⟩
    obtain ⟨f, h1, h2⟩ := hp.out
    exact ⟨v, f, rfl, h1, h2, hp.b⟩
end Go.Proofs.Ytcmgafgboepllaa
