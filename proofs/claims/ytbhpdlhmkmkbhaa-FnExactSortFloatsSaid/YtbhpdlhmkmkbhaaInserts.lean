/- Insertion sort of a stretch, by the order of floats: a contract. -/
import Derived.Test.YtbhpdlhmkmkbhaaSwapR
import Derived.Test.YtbhpdlhmkmkbhaaSCmp
namespace Go.Proofs.Ytbhpdlhmkmkbhaa
open Go.RowKit Fl Sr
set_option linter.unusedVariables false
theorem cmpF_neg {x y : Nat} : cmpF x y < 0 ↔ rk x < rk y := by
  unfold cmpF
  by_cases h1 : rk x < rk y
  · rw [if_pos h1]; simp [h1]
  · rw [if_neg h1]
    by_cases h2 : rk y < rk x
    · rw [if_pos h2]; simp [h1]
    · rw [if_neg h2]; simp [h1]
theorem clos_any {x y P : Nat} (hx : x < 18446744073709551616) (hy : y < 18446744073709551616) (w : World) (hc : w.cell? ⟨P, 0, none⟩ = some (.func (.func 20) #[] #[])) :
    Calls Try.prog 66 #[.float .f64 x, .float .f64 y, .pointer (some ⟨P, 0, none⟩)] w fun e w' => e = .returned (.int .i64 (cmpF x y)) ∧ w = w' := by
  have HC : Hid (∀ w, Calls Try.prog 20 #[.float .f64 x, .float .f64 y] w fun e w' => e = .returned (.int .i64 (cmpF x y)) ∧ w = w') := fun w => iCmp_any hx hy w
  go_enter Try.func66, Try.ntmps66
  go_wp2_with fail
  refine (HC.out _).mono ?_
  rintro e w1 ⟨rfl, rfl⟩
  clear HC
  go_wp2
  go_ret
  exact ⟨rfl, rfl⟩
/-- The comparison as it is handed on. -/
abbrev clos (P : Nat) : Value := .func (.func 66) #[] #[.pointer (some ⟨P, 0, none⟩)]
set_option maxRecDepth 100000 in
set_option maxHeartbeats 1600000 in
theorem ins_any (B n a b : Nat) (f : Nat → Nat) (P : Nat) (w0 w : World) (hS : St w0 w B n f P) (hP : P ≠ B) (hn : n ≤ 1000000000000) (hab : a ≤ b) (hb : b ≤ n) :
    Calls Try.prog 69 #[.slice (some ⟨B, 0, none⟩) n n, .int .i64 a, .int .i64 b, clos P] w fun e w' => e = .returned (.tuple #[]) ∧ ∃ g, St w0 w' B n g P ∧ Pm a b f g ∧ Srt rk a b g := by
  have HS : Hid (St w0 w B n f P ∧ P ≠ B) := ⟨hS, hP⟩
  have hst := st64
  clear hS hP
  go_enter Try.func69, Try.ntmps69
  go_wp2_with fail
  go_loopw [8] (fun u wr => ∃ i : Nat, u = .int .i64 i ∧ a + 1 ≤ i ∧ (i ≤ b ∨ i = a + 1) ∧ Hid (∃ g, St w0 wr B n g P ∧ Pm a b f g ∧ Srt rk a i g)) (fun u _ => b - (intOf u).toNat)
  case atStart => exact ⟨a + 1, by congr 1, Nat.le_refl _, Or.inr rfl, f, HS.out.1, Pm.refl _ _ _, Srt.small f (Nat.le_refl _)⟩
  case round =>
    obtain ⟨i, rfl, h1, h2, HG⟩ := hrel
    by_cases hib : i < b
    · have HG' : Hid (∃ g, St w0 wr B n g P ∧ Pm a b f g ∧ Ins rk a i i g) := by
        obtain ⟨g, s1, s2, s3⟩ := HG.out
        exact ⟨g, s1, s2, Ins.start s3⟩
      clear HG
      go_wp2_with fail
      go_loopw [9] (fun u wq => ∃ j : Nat, u = .int .i64 j ∧ a ≤ j ∧ j ≤ i ∧ Hid (∃ g, St w0 wq B n g P ∧ Pm a b f g ∧ Ins rk a i j g)) (fun u _ => (intOf u).toNat)
      case atStart => exact ⟨i, rfl, by omega, Nat.le_refl _, HG'⟩
      case round =>
        obtain ⟨j, rfl, k1, k2, HJ⟩ := hrel
        clear HG'
        by_cases hja : a < j
        · obtain ⟨t, rfl⟩ : ∃ t, j = t + 1 := ⟨j - 1, by omega⟩
          have hd : decide ((a : Int) < (t : Int) + 1) = true := decide_eq_true (by omega)
          obtain ⟨x, y, cv, g1, g2, f1, f2, HC, HL, HR⟩ : ∃ (x y : Nat) (cv : Int), wr.cell? ⟨B, t + 1, none⟩ = some (.float .f64 x) ∧ wr.cell? ⟨B, t, none⟩ = some (.float .f64 y) ∧ wr.frozen? ⟨B, t + 1, none⟩ = false ∧ wr.frozen? ⟨B, t, none⟩ = false ∧
              Hid (∀ q, Calls Try.prog 66 #[.float .f64 x, .float .f64 y, .pointer (some ⟨P, 0, none⟩)] (wr.drewN q) fun e w' => e = .returned (.int .i64 cv) ∧ wr.drewN q = w') ∧
              Hid (cv < 0 → ∃ g, St w0 ((wr.setCell ⟨B, t + 1, none⟩ (.float .f64 y)).setCell ⟨B, t, none⟩ (.float .f64 x)) B n g P ∧ Pm a b f g ∧ Ins rk a i t g) ∧
              Hid (¬ cv < 0 → ∃ g, St w0 wr B n g P ∧ Pm a b f g ∧ Srt rk a (i + 1) g) := by
            obtain ⟨g, s1, s2, s3⟩ := HJ.out
            refine ⟨g (t + 1), g t, cmpF (g (t + 1)) (g t), s1.cell (by omega), s1.cell (by omega), s1.frozen _, s1.frozen _, fun q => ?_, fun h => ?_, fun h => ?_⟩
            · exact clos_any (s1.lt _ (by omega)) (s1.lt _ (by omega)) _ (s1.drewN q).fn
            · rw [cmpF_neg] at h
              exact ⟨_, s1.swap HS.out.2 (by omega) (by omega), s2.trans (Pm.swap g (by omega) (by omega)), s3.step (by omega) (by omega) h⟩
            · rw [cmpF_neg] at h
              exact ⟨g, s1, s2, s3.done k2 k1 (Or.inr (by rw [Nat.add_sub_cancel]; omega))⟩
          clear HJ
          by_cases hcv : cv < 0
          · have HN : Hid (∃ g, St w0 ((wr.setCell ⟨B, t + 1, none⟩ (.float .f64 y)).setCell ⟨B, t, none⟩ (.float .f64 x)) B n g P ∧ Pm a b f g ∧ Ins rk a i t g) := HL.out hcv
            clear HL HR
            go_wp2
            go_quiet (first | (go_at_call 66; exact quiet_eq (HC.out _)))
            go_wp2
            obtain ⟨wd, hwd⟩ : ∃ wd, wd = wr.drewN nq := ⟨_, rfl⟩
            have g1' : wd.cell? ⟨B, t + 1, none⟩ = some (.float .f64 x) := by rw [hwd]; exact g1
            have g2' : wd.cell? ⟨B, t, none⟩ = some (.float .f64 y) := by rw [hwd]; exact g2
            have f1' : wd.frozen? ⟨B, t + 1, none⟩ = false := by rw [hwd]; exact f1
            have f2' : wd.frozen? ⟨B, t, none⟩ = false := by rw [hwd]; exact f2
            have HN' : Hid (∃ g, St w0 (((wd.setCell ⟨B, t + 1, none⟩ (.float .f64 y)).setCell ⟨B, t, none⟩ (.float .f64 x)).drew) B n g P ∧ Pm a b f g ∧ Ins rk a i t g) := by
              obtain ⟨g, s1, s2, s3⟩ := HN.out
              rw [hwd]
              exact ⟨g, (s1.drewN nq).drew, s2, s3⟩
            rw [← hwd]
            clear g1 g2 f1 f2 HN HC hwd
            go_region
            go_wp2
            go_roundw
            case rel => exact ⟨t, by simp, by omega, by omega, HN'⟩
            case measure => simp [intOf]
          · have HN : Hid (∃ g, St w0 wr B n g P ∧ Pm a b f g ∧ Srt rk a (i + 1) g) := HR.out hcv
            clear HL HR
            go_wp2
            go_quiet (first | (go_at_call 66; exact quiet_eq (HC.out _)))
            have HN' : Hid (∃ g, St w0 (wr.drewN nq) B n g P ∧ Pm a b f g ∧ Srt rk a (i + 1) g) := by
              obtain ⟨g, s1, s2, s3⟩ := HN.out
              exact ⟨g, s1.drewN nq, s2, s3⟩
            clear g1 g2 f1 f2 HN HC
            go_wp2
            go_roundw
            case rel => exact ⟨i + 1, by simp, by omega, Or.inl (by omega), HN'⟩
            case measure => simp [intOf]; omega
        · obtain rfl : j = a := by omega
          have hd : decide ((j : Int) < (j : Int)) = false := decide_eq_false (by omega)
          have HN : Hid (∃ g, St w0 wr B n g P ∧ Pm j b f g ∧ Srt rk j (i + 1) g) := by
            obtain ⟨g, s1, s2, s3⟩ := HJ.out
            exact ⟨g, s1, s2, s3.done k2 (Nat.le_refl _) (Or.inl rfl)⟩
          clear HJ
          go_wp2
          go_quiet (fail)
          have HN' : Hid (∃ g, St w0 (wr.drewN nq) B n g P ∧ Pm j b f g ∧ Srt rk j (i + 1) g) := by
            obtain ⟨g, s1, s2, s3⟩ := HN.out
            exact ⟨g, s1.drewN nq, s2, s3⟩
          clear HN
          go_wp2
          go_roundw
          case rel => exact ⟨i + 1, by simp, by omega, Or.inl (by omega), HN'⟩
          case measure => simp [intOf]; omega
    · have HN : Hid (∃ g, St w0 wr B n g P ∧ Pm a b f g ∧ Srt rk a b g) := by
        obtain ⟨g, s1, s2, s3⟩ := HG.out
        exact ⟨g, s1, s2, s3.sub (Nat.le_refl _) (by omega)⟩
      clear HG
      go_wp2
      go_returns
      exact ⟨rfl, HN.out⟩
end Go.Proofs.Ytbhpdlhmkmkbhaa
