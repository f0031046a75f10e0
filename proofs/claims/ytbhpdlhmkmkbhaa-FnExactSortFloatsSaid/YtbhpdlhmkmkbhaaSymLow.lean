/- Merging one place with a sorted stretch: a contract. -/
import Derived.Test.YtbhpdlhmkmkbhaaInserts
import Derived.Test.YtbhpdlhmkmkbhaaSrtMerge
namespace Go.Proofs.Ytbhpdlhmkmkbhaa
open Go.RowKit Fl Sr
set_option linter.unusedVariables false
set_option maxRecDepth 100000 in
set_option maxHeartbeats 3200000 in
theorem sym_low (B n a b : Nat) (f : Nat → Nat) (P : Nat) (w0 w : World) (hS : St w0 w B n f P) (hP : P ≠ B) (hn : n ≤ 1000000000000) (hab : a + 1 < b) (hb : b ≤ n) (h2 : Srt rk (a + 1) b f) :
    Calls Try.prog 70 #[.slice (some ⟨B, 0, none⟩) n n, .int .i64 a, .int .i64 ((a : Int) + 1), .int .i64 b, clos P] w fun e w' => e = .returned (.tuple #[]) ∧ ∃ g, St w0 w' B n g P ∧ Pm a b f g ∧ Srt rk a b g := by
  have HS : Hid (St w0 w B n f P ∧ P ≠ B ∧ Srt rk (a + 1) b f) := ⟨hS, hP, h2⟩
  have hst := st64
  clear hS hP h2
  have hq : ((a : Int) + 1 - (a : Int) == 1) = true := by rw [show (a : Int) + 1 - (a : Int) = 1 by omega]; rfl
  go_enter Try.func70, Try.ntmps70
  go_wp2_with fail
  go_loopw [10, 11] (fun u v wr => ∃ i j : Nat, u = .int .i64 i ∧ v = .int .i64 j ∧ a + 1 ≤ i ∧ i ≤ j ∧ j ≤ b ∧ Hid (St w0 wr B n f P ∧ (i = a + 1 ∨ rk (f (i - 1)) ≤ rk (f a)) ∧ (j = b ∨ rk (f a) ≤ rk (f j)))) (fun u v _ => (intOf v).toNat - (intOf u).toNat)
  case atStart => exact ⟨a + 1, b, by simp, rfl, Nat.le_refl _, by omega, Nat.le_refl _, HS.out.1, Or.inl rfl, Or.inl rfl⟩
  case round =>
    obtain ⟨i, j, rfl, rfl, h1, h3, h4, HG⟩ := hrel
    by_cases hij : i < j
    · obtain ⟨h, hh⟩ : ∃ h : Nat, ((i : Int) + (j : Int)) / 2 = (h : Int) := ⟨(i + j) / 2, by omega⟩
      have hh1 : i ≤ h := by omega
      have hh2 : h < j := by omega
      have HH : Hid (((i : Int) + (j : Int)) / 2 = (h : Int)) := hh
      obtain ⟨x, y, cv, g1, g2, HC, HL, HR⟩ : ∃ (x y : Nat) (cv : Int), wr.cell? ⟨B, h, none⟩ = some (.float .f64 x) ∧ wr.cell? ⟨B, a, none⟩ = some (.float .f64 y) ∧
          Hid (∀ q, Calls Try.prog 66 #[.float .f64 x, .float .f64 y, .pointer (some ⟨P, 0, none⟩)] (wr.drewN q) fun e w' => e = .returned (.int .i64 cv) ∧ wr.drewN q = w') ∧
          Hid (cv < 0 → ∀ q, St w0 (wr.drewN q) B n f P ∧ (h + 1 = a + 1 ∨ rk (f (h + 1 - 1)) ≤ rk (f a)) ∧ (j = b ∨ rk (f a) ≤ rk (f j))) ∧
          Hid (¬ cv < 0 → ∀ q, St w0 (wr.drewN q) B n f P ∧ (i = a + 1 ∨ rk (f (i - 1)) ≤ rk (f a)) ∧ (h = b ∨ rk (f a) ≤ rk (f h))) := by
        obtain ⟨s1, s2, s3⟩ := HG.out
        refine ⟨f h, f a, cmpF (f h) (f a), s1.cell (by omega), s1.cell (by omega), fun q => clos_any (s1.lt _ (by omega)) (s1.lt _ (by omega)) _ (s1.drewN q).fn, fun k q => ?_, fun k q => ?_⟩
        · rw [cmpF_neg] at k
          exact ⟨s1.drewN q, Or.inr (by rw [Nat.add_sub_cancel]; omega), s3⟩
        · rw [cmpF_neg] at k
          exact ⟨s1.drewN q, s2, Or.inr (by omega)⟩
      clear HG
      by_cases hcv : cv < 0
      · have HN : Hid (∀ q, St w0 (wr.drewN q) B n f P ∧ (h + 1 = a + 1 ∨ rk (f (h + 1 - 1)) ≤ rk (f a)) ∧ (j = b ∨ rk (f a) ≤ rk (f j))) := HL.out hcv
        clear HL HR HH
        go_wp2
        go_quiet (first | (go_at_call 66; exact quiet_eq (HC.out _)))
        clear g1 g2 HC
        go_wp2
        go_roundw
        case rel => exact ⟨h + 1, j, by simp, rfl, by omega, by omega, h4, HN.out _⟩
        case measure => simp [intOf]; omega
      · have HN : Hid (∀ q, St w0 (wr.drewN q) B n f P ∧ (i = a + 1 ∨ rk (f (i - 1)) ≤ rk (f a)) ∧ (h = b ∨ rk (f a) ≤ rk (f h))) := HR.out hcv
        clear HL HR HH
        go_wp2
        go_quiet (first | (go_at_call 66; exact quiet_eq (HC.out _)))
        clear g1 g2 HC
        go_wp2
        go_roundw
        case rel => exact ⟨i, h, rfl, by simp, h1, by omega, by omega, HN.out _⟩
        case measure => simp [intOf]; omega
    · obtain rfl : i = j := by omega
      have HD : Hid (Srt rk a b (down f a i)) := by
        obtain ⟨s1, s2, s3⟩ := HG.out
        refine HS.out.2.2.down h1 h4 (fun k k1 k2 => ?_) (fun k k1 k2 => ?_)
        · rcases s2 with d | d
          · omega
          · exact Nat.le_trans (HS.out.2.2 k (i - 1) k1 (by omega) (by omega)) d
        · rcases s3 with d | d
          · omega
          · exact Nat.le_trans d (HS.out.2.2 i k h1 k1 k2)
      have HP : Hid (∃ g, St w0 wr B n g P ∧ (∀ t, g t = down f a (a + 1) t) ∧ Pm a b f g) := ⟨f, HG.out.1, fun t => (down_start f a t).symm, Pm.refl _ _ _⟩
      clear HG
      go_wp2_with fail
      go_loopw [13] (fun u wr => ∃ k : Nat, u = .int .i64 k ∧ a ≤ k ∧ k + 1 ≤ i ∧ Hid (∃ g, St w0 wr B n g P ∧ (∀ t, g t = down f a (k + 1) t) ∧ Pm a b f g)) (fun u _ => i - (intOf u).toNat)
      case atStart => exact ⟨a, rfl, Nat.le_refl _, h1, HP⟩
      case round =>
        obtain ⟨k, rfl, k1, k2, HG⟩ := hrel
        clear HP
        by_cases hk : k + 1 < i
        · obtain ⟨x, y, g1, g2, f1, f2, HN⟩ : ∃ (x y : Nat), wr.cell? ⟨B, k, none⟩ = some (.float .f64 x) ∧ wr.cell? ⟨B, k + 1, none⟩ = some (.float .f64 y) ∧ wr.frozen? ⟨B, k, none⟩ = false ∧ wr.frozen? ⟨B, k + 1, none⟩ = false ∧
              Hid (∃ g, St w0 (((wr.setCell ⟨B, k, none⟩ (.float .f64 y)).setCell ⟨B, k + 1, none⟩ (.float .f64 x)).drew) B n g P ∧ (∀ t, g t = down f a (k + 1 + 1) t) ∧ Pm a b f g) := by
            obtain ⟨g, s1, s2, s3⟩ := HG.out
            refine ⟨g k, g (k + 1), s1.cell (by omega), s1.cell (by omega), s1.frozen _, s1.frozen _, sw g k (k + 1), (s1.swap HS.out.2.1 (by omega) (by omega)).drew, fun t => ?_, s3.trans (Pm.swap g (by omega) (by omega))⟩
            rw [← down_step f a k k1]
            unfold sw
            rw [s2, s2, s2]
          clear HG
          go_wp2
          go_region
          go_wp2
          go_roundw
          case rel => exact ⟨k + 1, by simp, by omega, by omega, HN⟩
          case measure => simp [intOf]; omega
        · obtain rfl : i = k + 1 := by omega
          have HN : Hid (∃ g, St w0 wr B n g P ∧ Pm a b f g ∧ Srt rk a b g) := by
            obtain ⟨g, s1, s2, s3⟩ := HG.out
            exact ⟨g, s1, s3, HD.out.congr fun t _ _ => s2 t⟩
          clear HG HD
          go_wp2
          go_returns
          exact ⟨rfl, HN.out⟩
end Go.Proofs.Ytbhpdlhmkmkbhaa
