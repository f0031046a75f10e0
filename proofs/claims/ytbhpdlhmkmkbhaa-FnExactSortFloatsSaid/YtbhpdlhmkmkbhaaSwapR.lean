/- Exchanging two stretches of a list of floats: a contract. -/
import Derived.Test.YtbhpdlhmkmkbhaaSums
import Derived.Test.YtbhpdlhmkmkbhaaSrtMath
import Derived.BigRegion
namespace Go.Proofs.Ytbhpdlhmkmkbhaa
open Go.RowKit Fl Sr
set_option linter.unusedVariables false
/-- The block B holds the floats f; the box P holds the comparison; beside B nothing has changed since w0. -/
structure St (w0 w : World) (B n : Nat) (f : Nat → Nat) (P : Nat) : Prop where
  seg : Seg w B 24 0 n (fun i => .float .f64 (f i))
  fn : w.cell? ⟨P, 0, none⟩ = some (.func (.func 20) #[] #[])
  within : Within B (B + 1) w0 w
  size : w.heap.size = w0.heap.size
  lt : ∀ i, i < n → f i < 18446744073709551616
theorem St.cell {w0 w : World} {B n : Nat} {f : Nat → Nat} {P : Nat} (h : St w0 w B n f P) {i : Nat} (hi : i < n) : w.cell? ⟨B, i, none⟩ = some (.float .f64 (f i)) := by simpa using h.seg.cell hi
theorem St.frozen {w0 w : World} {B n : Nat} {f : Nat → Nat} {P : Nat} (h : St w0 w B n f P) (i : Nat) : w.frozen? ⟨B, i, none⟩ = false := h.seg.frozen i
theorem St.drewN {w0 w : World} {B n : Nat} {f : Nat → Nat} {P : Nat} (h : St w0 w B n f P) (q : Nat) : St w0 (w.drewN q) B n f P :=
  ⟨h.seg, h.fn, ⟨below_drewN h.within.below _, h.within.above⟩, h.size, h.lt⟩
theorem St.drew {w0 w : World} {B n : Nat} {f : Nat → Nat} {P : Nat} (h : St w0 w B n f P) : St w0 w.drew B n f P := h.drewN 1
theorem St.congr {w0 w : World} {B n : Nat} {f g : Nat → Nat} {P : Nat} (h : St w0 w B n f P) (e : ∀ k, k < n → g k = f k) : St w0 w B n g P :=
  ⟨h.seg.congr fun i hi => by rw [e i hi], h.fn, h.within, h.size, fun i hi => by rw [e i hi]; exact h.lt i hi⟩
theorem St.set {w0 w : World} {B n : Nat} {f : Nat → Nat} {P : Nat} (h : St w0 w B n f P) (hP : P ≠ B) {i : Nat} (hi : i < n) (x : Nat) (hx : x < 18446744073709551616) : St w0 (w.setCell ⟨B, i, none⟩ (.float .f64 x)) B n (fun k => if k = i then x else f k) P := by
  refine ⟨?_, ?_, h.within.setCell (Nat.le_refl _) (Nat.lt_succ_self _) _, by simpa using h.size, fun k hk => ?_⟩
  · have := h.seg.set i hi (.float .f64 x)
    rw [Nat.zero_add] at this
    refine this.congr fun k _ => ?_
    by_cases e : k = i
    · simp [e]
    · simp [e]
  · rw [World.cell?_setCell_other _ _ _ _ (by intro k; exact hP (congrArg Addr.block k).symm)]
    exact h.fn
  · show (if k = i then x else f k) < _
    split
    · exact hx
    · exact h.lt k hk
/-- Two places exchanged, in either order of the stores. -/
theorem St.swap {w0 w : World} {B n : Nat} {f : Nat → Nat} {P : Nat} (h : St w0 w B n f P) (hP : P ≠ B) {i j : Nat} (hi : i < n) (hj : j < n) :
    St w0 ((w.setCell ⟨B, i, none⟩ (.float .f64 (f j))).setCell ⟨B, j, none⟩ (.float .f64 (f i))) B n (sw f i j) P := by
  refine ((h.set hP hi (f j) (h.lt j hj)).set hP hj (f i) (h.lt i hi)).congr fun k _ => ?_
  unfold sw
  by_cases c1 : k = i
  · by_cases c2 : k = j
    · rw [if_pos c1, if_pos c2, ← c1, ← c2]
    · rw [if_pos c1, if_neg c2]; simp only [c1, if_true]
  · rw [if_neg c1]
    by_cases c2 : k = j
    · rw [if_pos c2, if_pos c2]
    · rw [if_neg c2, if_neg c2]; simp only [c1, if_false]
set_option maxRecDepth 100000 in
set_option maxHeartbeats 1600000 in
theorem swapR_any (B n p q N : Nat) (fv : Value) (f : Nat → Nat) (P : Nat) (w0 w : World) (hS : St w0 w B n f P) (hP : P ≠ B) (hn : n ≤ 1000000000000) (hpq : p + N ≤ q) (hq : q + N ≤ n) :
    Calls Try.prog 72 #[.slice (some ⟨B, 0, none⟩) n n, .int .i64 p, .int .i64 q, .int .i64 N, fv] w fun e w' => e = .returned (.tuple #[]) ∧ St w0 w' B n (xch f p q N) P := by
  have HS : Hid (St w0 w B n f P ∧ P ≠ B) := ⟨hS, hP⟩
  have hst := st64
  clear hS hP
  go_enter Try.func72, Try.ntmps72
  go_wp2_with fail
  go_loopw [10] (fun i wr => ∃ k : Nat, k ≤ N ∧ i = .int .i64 k ∧ Hid (St w0 wr B n (xch f p q k) P)) (fun i _ => N - (intOf i).toNat)
  case atStart => exact ⟨0, Nat.zero_le _, rfl, HS.out.1.congr fun k _ => by unfold xch; rw [if_neg (by omega), if_neg (by omega)]⟩
  case round =>
    obtain ⟨k, hk, rfl, HW⟩ := hrel
    by_cases hkN : k < N
    · obtain ⟨x, hx⟩ : ∃ x, x = xch f p q k (p + k) := ⟨_, rfl⟩
      obtain ⟨y, hy⟩ : ∃ y, y = xch f p q k (q + k) := ⟨_, rfl⟩
      have g1 : wr.cell? ⟨B, p + k, none⟩ = some (.float .f64 x) := by rw [hx]; exact HW.out.cell (by omega)
      have g2 : wr.cell? ⟨B, q + k, none⟩ = some (.float .f64 y) := by rw [hy]; exact HW.out.cell (by omega)
      have g3 := HW.out.frozen (p + k)
      have g4 := HW.out.frozen (q + k)
      have hne : p + k ≠ q + k := by omega
      have HW' : Hid (St w0 ((wr.setCell ⟨B, p + k, none⟩ (.float .f64 y)).setCell ⟨B, q + k, none⟩ (.float .f64 x)) B n (xch f p q (k + 1)) P) := by
        rw [hx, hy]
        refine (HW.out.swap HS.out.2 (by omega) (by omega)).congr fun t _ => ?_
        unfold sw xch
        repeat' split
        all_goals first | rfl | (exfalso; omega) | (congr 1; omega)
      clear hx hy HW
      go_wp2
      go_region
      go_wp2
      go_roundw
      case rel => exact ⟨k + 1, by omega, by simp, HW'.out.drew⟩
      case measure => simp [intOf]; omega
    · obtain rfl : k = N := by omega
      go_wp2
      go_returns
      exact ⟨rfl, HW.out⟩
set_option maxRecDepth 100000 in
set_option maxHeartbeats 1600000 in
theorem rotate_any (B n m i0 j0 : Nat) (fv : Value) (f : Nat → Nat) (P : Nat) (w0 w : World) (hS : St w0 w B n f P) (hP : P ≠ B) (hn : n ≤ 1000000000000) (hi0 : 0 < i0) (hj0 : 0 < j0) (hm : i0 ≤ m) (hb : m + j0 ≤ n) :
    Calls Try.prog 71 #[.slice (some ⟨B, 0, none⟩) n n, .int .i64 ((m : Int) - i0), .int .i64 m, .int .i64 ((m : Int) + j0), fv] w fun e w' => e = .returned (.tuple #[]) ∧ ∃ g, St w0 w' B n g P ∧ (∀ k, g k = rot f (m - i0) m (m + j0) k) ∧ Pm (m - i0) (m + j0) f g := by
  have HS : Hid (St w0 w B n f P ∧ P ≠ B) := ⟨hS, hP⟩
  clear hS hP
  go_enter Try.func71, Try.ntmps71
  go_wp2_with fail
  go_loopw [10, 11] (fun a b wr => ∃ i j : Nat, a = .int .i64 i ∧ b = .int .i64 j ∧ 0 < i ∧ 0 < j ∧ i ≤ i0 ∧ j ≤ j0 ∧ Hid (∃ g, St w0 wr B n g P ∧ (∀ k, rot g (m - i) m (m + j) k = rot f (m - i0) m (m + j0) k) ∧ Pm (m - i0) (m + j0) f g)) (fun a b _ => (intOf a).toNat + (intOf b).toNat)
  case atStart => exact ⟨i0, j0, by congr 1; omega, by congr 1; omega, hi0, hj0, Nat.le_refl _, Nat.le_refl _, f, HS.out.1, fun _ => rfl, Pm.refl _ _ _⟩
  case round =>
    obtain ⟨i, j, rfl, rfl, h1, h2, h3, h4, HG⟩ := hrel
    rcases Nat.lt_trichotomy i j with hij | hij | hij
    · have HK : Hid (Calls Try.prog 72 #[.slice (some ⟨B, 0, none⟩) n n, .int .i64 ((m : Int) - i), .int .i64 ((m : Int) + j - i), .int .i64 i, fv] wr fun e w' => e = .returned (.tuple #[]) ∧ ∃ g, St w0 w' B n g P ∧ (∀ k, rot g (m - i) m (m + (j - i)) k = rot f (m - i0) m (m + j0) k) ∧ Pm (m - i0) (m + j0) f g) := by
        obtain ⟨g, s1, s2, s3⟩ := HG.out
        have := swapR_any B n (m - i) (m + j - i) i fv g P w0 wr s1 HS.out.2 hn (by omega) (by omega)
        rw [show ((m - i : Nat) : Int) = (m : Int) - i by omega, show ((m + j - i : Nat) : Int) = (m : Int) + j - i by omega] at this
        refine this.mono ?_
        rintro e w' ⟨rfl, t1⟩
        exact ⟨rfl, _, t1, fun k => by rw [rot_less (by omega) hij, s2], s3.trans (Pm.xch g (by omega) (by omega) (by omega))⟩
      clear HG
      go_wp2_with fail
      refine HK.out.mono ?_
      rintro e w1 ⟨rfl, hg⟩
      have HG : Hid (∃ g, St w0 w1 B n g P ∧ (∀ k, rot g (m - i) m (m + (j - i)) k = rot f (m - i0) m (m + j0) k) ∧ Pm (m - i0) (m + j0) f g) := hg
      clear hg HK
      go_wp2
      go_roundw
      case rel => exact ⟨i, j - i, rfl, by congr 1; omega, h1, by omega, h3, by omega, HG⟩
      case measure => simp [intOf]; omega
    · subst hij
      have HK : Hid (Calls Try.prog 72 #[.slice (some ⟨B, 0, none⟩) n n, .int .i64 ((m : Int) - i), .int .i64 m, .int .i64 i, fv] wr fun e w' => e = .returned (.tuple #[]) ∧ ∃ g, St w0 w' B n g P ∧ (∀ k, g k = rot f (m - i0) m (m + j0) k) ∧ Pm (m - i0) (m + j0) f g) := by
        obtain ⟨g, s1, s2, s3⟩ := HG.out
        have := swapR_any B n (m - i) m i fv g P w0 wr s1 HS.out.2 hn (by omega) (by omega)
        rw [show ((m - i : Nat) : Int) = (m : Int) - i by omega] at this
        refine this.mono ?_
        rintro e w' ⟨rfl, t1⟩
        exact ⟨rfl, _, t1, fun k => by rw [rot_even (by omega), s2], s3.trans (Pm.xch g (by omega) (by omega) (by omega))⟩
      clear HG
      go_wp2_with fail
      refine HK.out.mono ?_
      rintro e w1 ⟨rfl, hg⟩
      have HG : Hid (∃ g, St w0 w1 B n g P ∧ (∀ k, g k = rot f (m - i0) m (m + j0) k) ∧ Pm (m - i0) (m + j0) f g) := hg
      clear hg HK
      go_wp2
      go_returns
      exact ⟨rfl, HG.out⟩
    · have HK : Hid (Calls Try.prog 72 #[.slice (some ⟨B, 0, none⟩) n n, .int .i64 ((m : Int) - i), .int .i64 m, .int .i64 j, fv] wr fun e w' => e = .returned (.tuple #[]) ∧ ∃ g, St w0 w' B n g P ∧ (∀ k, rot g (m - (i - j)) m (m + j) k = rot f (m - i0) m (m + j0) k) ∧ Pm (m - i0) (m + j0) f g) := by
        obtain ⟨g, s1, s2, s3⟩ := HG.out
        have := swapR_any B n (m - i) m j fv g P w0 wr s1 HS.out.2 hn (by omega) (by omega)
        rw [show ((m - i : Nat) : Int) = (m : Int) - i by omega] at this
        refine this.mono ?_
        rintro e w' ⟨rfl, t1⟩
        exact ⟨rfl, _, t1, fun k => by rw [rot_more (by omega) hij, s2], s3.trans (Pm.xch g (by omega) (by omega) (by omega))⟩
      clear HG
      go_wp2_with fail
      refine HK.out.mono ?_
      rintro e w1 ⟨rfl, hg⟩
      have HG : Hid (∃ g, St w0 w1 B n g P ∧ (∀ k, rot g (m - (i - j)) m (m + j) k = rot f (m - i0) m (m + j0) k) ∧ Pm (m - i0) (m + j0) f g) := hg
      clear hg HK
      go_wp2
      go_roundw
      case rel => exact ⟨i - j, j, by congr 1; omega, rfl, by omega, h2, by omega, h4, HG⟩
      case measure => simp [intOf]; omega
end Go.Proofs.Ytbhpdlhmkmkbhaa
