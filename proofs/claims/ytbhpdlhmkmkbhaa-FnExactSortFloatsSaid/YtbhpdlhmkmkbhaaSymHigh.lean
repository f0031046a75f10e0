/- Merging a sorted stretch with one place: a contract. -/
import Derived.Test.YtbhpdlhmkmkbhaaInserts
import Derived.Test.YtbhpdlhmkmkbhaaSrtMerge
namespace Go.Proofs.Ytbhpdlhmkmkbhaa
open Go.RowKit Fl Sr
set_option linter.unusedVariables false
set_option maxRecDepth 100000 in
set_option maxHeartbeats 3200000 in
theorem sym_high (B n a m : Nat) (f : Nat → Nat) (P : Nat) (w0 w : World) (hS : St w0 w B n f P) (hP : P ≠ B) (hn : n ≤ 1000000000000) (ham : a + 1 < m) (hb : m + 1 ≤ n) (h2 : Srt rk a m f) :
    Calls Try.prog 70 #[.slice (some ⟨B, 0, none⟩) n n, .int .i64 a, .int .i64 m, .int .i64 ((m : Int) + 1), clos P] w fun e w' => e = .returned (.tuple #[]) ∧ ∃ g, St w0 w' B n g P ∧ Pm a (m + 1) f g ∧ Srt rk a (m + 1) g := by
  have HS : Hid (St w0 w B n f P ∧ P ≠ B ∧ Srt rk a m f) := ⟨hS, hP, h2⟩
  have hst := st64
  clear hS hP h2
  have hq0 : ((m : Int) - (a : Int) == 1) = false := by simp; omega
  have hq : ((m : Int) + 1 - (m : Int) == 1) = true := by rw [show (m : Int) + 1 - (m : Int) = 1 by omega]; rfl
  go_enter Try.func70, Try.ntmps70
  go_wp2_with fail
  go_loopw [14, 15] (fun u v wr => ∃ i j : Nat, u = .int .i64 i ∧ v = .int .i64 j ∧ a ≤ i ∧ i ≤ j ∧ j ≤ m ∧ Hid (St w0 wr B n f P ∧ (i = a ∨ rk (f (i - 1)) ≤ rk (f m)) ∧ (j = m ∨ rk (f m) ≤ rk (f j)))) (fun u v _ => (intOf v).toNat - (intOf u).toNat)
  case atStart => exact ⟨a, m, rfl, rfl, Nat.le_refl _, by omega, Nat.le_refl _, HS.out.1, Or.inl rfl, Or.inl rfl⟩
  case round =>
    obtain ⟨i, j, rfl, rfl, h1, h3, h4, HG⟩ := hrel
    by_cases hij : i < j
    · obtain ⟨h, hh⟩ : ∃ h : Nat, ((i : Int) + (j : Int)) / 2 = (h : Int) := ⟨(i + j) / 2, by omega⟩
      have hh1 : i ≤ h := by omega
      have hh2 : h < j := by omega
      obtain ⟨x, y, cv, g1, g2, HC, HL, HR⟩ : ∃ (x y : Nat) (cv : Int), wr.cell? ⟨B, m, none⟩ = some (.float .f64 x) ∧ wr.cell? ⟨B, h, none⟩ = some (.float .f64 y) ∧
          Hid (∀ q, Calls Try.prog 66 #[.float .f64 x, .float .f64 y, .pointer (some ⟨P, 0, none⟩)] (wr.drewN q) fun e w' => e = .returned (.int .i64 cv) ∧ wr.drewN q = w') ∧
          Hid (¬ cv < 0 → ∀ q, St w0 (wr.drewN q) B n f P ∧ (h + 1 = a ∨ rk (f (h + 1 - 1)) ≤ rk (f m)) ∧ (j = m ∨ rk (f m) ≤ rk (f j))) ∧
          Hid (cv < 0 → ∀ q, St w0 (wr.drewN q) B n f P ∧ (i = a ∨ rk (f (i - 1)) ≤ rk (f m)) ∧ (h = m ∨ rk (f m) ≤ rk (f h))) := by
        obtain ⟨s1, s2, s3⟩ := HG.out
        refine ⟨f m, f h, cmpF (f m) (f h), s1.cell (by omega), s1.cell (by omega), fun q => clos_any (s1.lt _ (by omega)) (s1.lt _ (by omega)) _ (s1.drewN q).fn, fun k q => ?_, fun k q => ?_⟩
        · rw [cmpF_neg] at k
          exact ⟨s1.drewN q, Or.inr (by rw [Nat.add_sub_cancel]; omega), s3⟩
        · rw [cmpF_neg] at k
          exact ⟨s1.drewN q, s2, Or.inr (by omega)⟩
      clear HG
      by_cases hcv : cv < 0
      · have hdc : decide (cv < 0) = true := decide_eq_true hcv
        have HN : Hid (∀ q, St w0 (wr.drewN q) B n f P ∧ (i = a ∨ rk (f (i - 1)) ≤ rk (f m)) ∧ (h = m ∨ rk (f m) ≤ rk (f h))) := HR.out hcv
        clear HL HR
        go_wp2
        go_quiet (first | (go_at_call 66; exact quiet_eq (HC.out _)))
        clear g1 g2 HC
        go_wp2
        go_roundw
        case rel => exact ⟨i, h, rfl, by simp, h1, by omega, by omega, HN.out _⟩
        case measure => simp [intOf]; omega
      · have hdc : decide (cv < 0) = false := decide_eq_false hcv
        have HN : Hid (∀ q, St w0 (wr.drewN q) B n f P ∧ (h + 1 = a ∨ rk (f (h + 1 - 1)) ≤ rk (f m)) ∧ (j = m ∨ rk (f m) ≤ rk (f j))) := HL.out hcv
        clear HL HR
        go_wp2
        go_quiet (first | (go_at_call 66; exact quiet_eq (HC.out _)))
        clear g1 g2 HC
        go_wp2
        go_roundw
        case rel => exact ⟨h + 1, j, by simp, rfl, by omega, by omega, h4, HN.out _⟩
        case measure => simp [intOf]; omega
    · obtain rfl : i = j := by omega
      have HD : Hid (Srt rk a (m + 1) (up f i m)) := by
        obtain ⟨s1, s2, s3⟩ := HG.out
        refine HS.out.2.2.up h1 h4 (fun k k1 k2 => ?_) (fun k k1 k2 => ?_)
        · rcases s2 with d | d
          · omega
          · exact Nat.le_trans (HS.out.2.2 k (i - 1) k1 (by omega) (by omega)) d
        · rcases s3 with d | d
          · omega
          · exact Nat.le_trans d (HS.out.2.2 i k h1 k1 k2)
      have HP : Hid (∃ g, St w0 wr B n g P ∧ (∀ t, g t = up f m m t) ∧ Pm a (m + 1) f g) := ⟨f, HG.out.1, fun t => (up_start f m t).symm, Pm.refl _ _ _⟩
      clear HG
      go_wp2_with fail
      go_loopw [17] (fun u wr => ∃ k : Nat, u = .int .i64 k ∧ i ≤ k ∧ k ≤ m ∧ Hid (∃ g, St w0 wr B n g P ∧ (∀ t, g t = up f k m t) ∧ Pm a (m + 1) f g)) (fun u _ => (intOf u).toNat)
      case atStart => exact ⟨m, rfl, h4, Nat.le_refl _, HP⟩
      case round =>
        obtain ⟨k, rfl, k1, k2, HG⟩ := hrel
        clear HP
        by_cases hk : i < k
        · obtain ⟨t, rfl⟩ : ∃ t, k = t + 1 := ⟨k - 1, by omega⟩
          obtain ⟨x, y, g1, g2, f1, f2, HN⟩ : ∃ (x y : Nat), wr.cell? ⟨B, t + 1, none⟩ = some (.float .f64 x) ∧ wr.cell? ⟨B, t, none⟩ = some (.float .f64 y) ∧ wr.frozen? ⟨B, t + 1, none⟩ = false ∧ wr.frozen? ⟨B, t, none⟩ = false ∧
              Hid (∃ g, St w0 (((wr.setCell ⟨B, t + 1, none⟩ (.float .f64 y)).setCell ⟨B, t, none⟩ (.float .f64 x)).drew) B n g P ∧ (∀ z, g z = up f t m z) ∧ Pm a (m + 1) f g) := by
            obtain ⟨g, s1, s2, s3⟩ := HG.out
            refine ⟨g (t + 1), g t, s1.cell (by omega), s1.cell (by omega), s1.frozen _, s1.frozen _, sw g (t + 1) t, (s1.swap HS.out.2.1 (by omega) (by omega)).drew, fun z => ?_, s3.trans (Pm.swap g (by omega) (by omega))⟩
            rw [← up_step f t m (by omega)]
            unfold sw
            rw [s2, s2, s2]
          clear HG
          go_wp2
          go_region
          go_wp2
          go_roundw
          case rel => exact ⟨t, by simp, by omega, by omega, HN⟩
          case measure => simp [intOf]
        · obtain rfl : k = i := by omega
          have HN : Hid (∃ g, St w0 wr B n g P ∧ Pm a (m + 1) f g ∧ Srt rk a (m + 1) g) := by
            obtain ⟨g, s1, s2, s3⟩ := HG.out
            exact ⟨g, s1, s3, HD.out.congr fun t _ _ => s2 t⟩
          clear HG HD
          go_wp2
          go_returns
          exact ⟨rfl, HN.out⟩
end Go.Proofs.Ytbhpdlhmkmkbhaa
