/- The library's stable sort of a list of floats: a contract. -/
import Derived.Test.YtbhpdlhmkmkbhaaSymAny
namespace Go.Proofs.Ytbhpdlhmkmkbhaa
open Go.RowKit Fl Sr
set_option linter.unusedVariables false
/-- The first t blocks of s places are sorted. -/
def Blk (n s t : Nat) (f : Nat → Nat) : Prop := ∀ u, u < t → Srt rk (u * s) (min ((u + 1) * s) n) f
/-- All blocks from the t-th on are. -/
def From (n s t : Nat) (f : Nat → Nat) : Prop := ∀ u, t ≤ u → Srt rk (u * s) (min ((u + 1) * s) n) f
theorem Blk.more {n s t : Nat} {f g : Nat → Nat} {b : Nat} (h : Blk n s t f) (p : Pm (t * s) b f g) (hs : Srt rk (t * s) (min ((t + 1) * s) n) g) : Blk n s (t + 1) g := fun u hu => by
  by_cases c : u = t
  · subst c; exact hs
  · refine (h u (by omega)).congr fun k k1 k2 => p.out (Or.inl ?_)
    have : (u + 1) * s ≤ t * s := Nat.mul_le_mul_right _ (by omega)
    omega
theorem Blk.all {n s t : Nat} {f : Nat → Nat} (h : Blk n s t f) (ht : n ≤ t * s) : From n s 0 f := fun u _ => by
  by_cases c : u < t
  · exact h u c
  · refine Srt.small f ?_
    have : t * s ≤ u * s := Nat.mul_le_mul_right _ (by omega)
    omega
theorem From.less {n s t t' : Nat} {f g : Nat → Nat} {a b : Nat} (h : From n s t f) (p : Pm a b f g) (ht : t ≤ t') (hb : b ≤ t' * s) : From n s t' g := fun u hu => by
  refine (h u (by omega)).congr fun k k1 k2 => p.out (Or.inr ?_)
  have : t' * s ≤ u * s := Nat.mul_le_mul_right _ hu
  omega
/-- The first loop: blocks of 20 places, up to A. -/
def L1 (B n P : Nat) (w0 w : World) (f : Nat → Nat) (A : Nat) : Prop := ∃ g t, A = t * 20 ∧ St w0 w B n g P ∧ Pm 0 n f g ∧ Blk n 20 t g
/-- The second loop: all blocks of s places. -/
def L2 (B n P : Nat) (w0 w : World) (f : Nat → Nat) (s : Nat) : Prop := ∃ g, St w0 w B n g P ∧ Pm 0 n f g ∧ From n s 0 g
/-- The third: blocks of 2 s places up to A, of s places behind. -/
def L3 (B n P : Nat) (w0 w : World) (f : Nat → Nat) (s A : Nat) : Prop := ∃ g t, A = t * (2 * s) ∧ St w0 w B n g P ∧ Pm 0 n f g ∧ Blk n (2 * s) t g ∧ From n s (2 * t) g
section
variable {B n P : Nat} {w0 w : World} {f : Nat → Nat}
theorem l1_start (h : St w0 w B n f P) : L1 B n P w0 w f 0 := ⟨f, 0, by omega, h, Pm.refl _ _ _, fun u hu => by omega⟩
theorem l1_step {A : Nat} (h : L1 B n P w0 w f A) (hP : P ≠ B) (hn : n ≤ 1000000000000) (hA : A + 20 ≤ n) :
    Calls Try.prog 69 #[.slice (some ⟨B, 0, none⟩) n n, .int .i64 A, .int .i64 ((A : Int) + 20), clos P] w fun e w' => e = .returned (.tuple #[]) ∧ L1 B n P w0 w' f (A + 20) := by
  obtain ⟨g, t, e1, s1, p1, b1⟩ := h
  have := ins_any B n A (A + 20) g P w0 w s1 hP hn (by omega) hA
  rw [show ((A + 20 : Nat) : Int) = (A : Int) + 20 by omega] at this
  refine this.mono ?_
  rintro e w' ⟨rfl, k, k1, k2, k3⟩
  refine ⟨rfl, k, t + 1, by omega, k1, p1.trans (k2.wide (by omega) hA), b1.more (b := A + 20) (by rw [← e1]; exact k2) ?_⟩
  rw [← e1, show (t + 1) * 20 = A + 20 by omega, Nat.min_eq_left hA]
  exact k3
theorem l1_end {A : Nat} (h : L1 B n P w0 w f A) (hP : P ≠ B) (hn : n ≤ 1000000000000) (hA : A ≤ n) (hA2 : n < A + 20) :
    Calls Try.prog 69 #[.slice (some ⟨B, 0, none⟩) n n, .int .i64 A, .int .i64 n, clos P] w fun e w' => e = .returned (.tuple #[]) ∧ L2 B n P w0 w' f 20 := by
  obtain ⟨g, t, e1, s1, p1, b1⟩ := h
  refine (ins_any B n A n g P w0 w s1 hP hn hA (Nat.le_refl _)).mono ?_
  rintro e w' ⟨rfl, k, k1, k2, k3⟩
  refine ⟨rfl, k, k1, p1.trans (k2.wide (by omega) (Nat.le_refl _)), (b1.more (b := n) (by rw [← e1]; exact k2) ?_).all (by omega)⟩
  rw [← e1, show (t + 1) * 20 = A + 20 by omega, Nat.min_eq_right (by omega)]
  exact k3
theorem l3_start {s : Nat} (h : L2 B n P w0 w f s) : L3 B n P w0 w f s 0 := by
  obtain ⟨g, s1, p1, f1⟩ := h
  exact ⟨g, 0, by omega, s1, p1, fun u hu => by omega, f1⟩
theorem two_t (t s : Nat) : t * (2 * s) = 2 * t * s := by rw [← Nat.mul_assoc, Nat.mul_comm t 2]
theorem two_t1 (t s : Nat) : (2 * t + 1) * s = t * (2 * s) + s := by rw [Nat.add_mul, two_t, Nat.one_mul]
theorem two_t2 (t s : Nat) : (t + 1) * (2 * s) = t * (2 * s) + 2 * s := by rw [Nat.add_mul, Nat.one_mul]
theorem l3_sorted {g : Nat → Nat} {s t A : Nat} (e1 : A = t * (2 * s)) (f1 : From n s (2 * t) g) : Srt rk A (min (A + s) n) g ∧ Srt rk (A + s) (min (A + 2 * s) n) g := by
  constructor
  · have := f1 (2 * t) (Nat.le_refl _)
    rw [← two_t, two_t1, ← e1] at this
    exact this
  · have := f1 (2 * t + 1) (by omega)
    rw [two_t1, ← e1, show (2 * t + 1 + 1) * s = (t + 1) * (2 * s) by rw [two_t (t + 1) s]; congr 1, two_t2, ← e1] at this
    exact this
theorem l3_step {s A : Nat} (h : L3 B n P w0 w f s A) (hP : P ≠ B) (hn : n ≤ 1000000000000) (hs : 0 < s) (hA : A + 2 * s ≤ n) :
    Calls Try.prog 70 #[.slice (some ⟨B, 0, none⟩) n n, .int .i64 A, .int .i64 ((A : Int) + s), .int .i64 ((A : Int) + 2 * s), clos P] w fun e w' => e = .returned (.tuple #[]) ∧ L3 B n P w0 w' f s (A + 2 * s) := by
  obtain ⟨g, t, e1, s1, p1, b1, f1⟩ := h
  obtain ⟨r1, r2⟩ := l3_sorted e1 f1
  rw [Nat.min_eq_left (by omega)] at r1 r2
  have := sym_any B n P w0 hP hn (A + 2 * s - A + 1) A (A + s) (A + 2 * s) g w (by omega) s1 (by omega) (by omega) hA r1 r2
  rw [show ((A + s : Nat) : Int) = (A : Int) + s by omega, show ((A + 2 * s : Nat) : Int) = (A : Int) + 2 * s by omega] at this
  refine this.mono ?_
  rintro e w' ⟨rfl, k, k1, k2, k3⟩
  refine ⟨rfl, k, t + 1, by rw [two_t2, ← e1], k1, p1.trans (k2.wide (by omega) hA), b1.more (b := A + 2 * s) (by rw [← e1]; exact k2) ?_, f1.less (a := A) (b := A + 2 * s) k2 (by omega) ?_⟩
  · rw [two_t2, ← e1, Nat.min_eq_left hA]; exact k3
  · rw [← two_t, two_t2, ← e1]; exact Nat.le_refl _
theorem l3_last {s A : Nat} (h : L3 B n P w0 w f s A) (hP : P ≠ B) (hn : n ≤ 1000000000000) (hs : 0 < s) (hA : A + s < n) (hA2 : n < A + 2 * s) :
    Calls Try.prog 70 #[.slice (some ⟨B, 0, none⟩) n n, .int .i64 A, .int .i64 ((A : Int) + s), .int .i64 n, clos P] w fun e w' => e = .returned (.tuple #[]) ∧ L2 B n P w0 w' f (2 * s) := by
  obtain ⟨g, t, e1, s1, p1, b1, f1⟩ := h
  obtain ⟨r1, r2⟩ := l3_sorted e1 f1
  rw [Nat.min_eq_left (by omega)] at r1
  rw [Nat.min_eq_right (by omega)] at r2
  have := sym_any B n P w0 hP hn (n - A + 1) A (A + s) n g w (by omega) s1 (by omega) hA (Nat.le_refl _) r1 r2
  rw [show ((A + s : Nat) : Int) = (A : Int) + s by omega] at this
  refine this.mono ?_
  rintro e w' ⟨rfl, k, k1, k2, k3⟩
  refine ⟨rfl, k, k1, p1.trans (k2.wide (by omega) (Nat.le_refl _)), (b1.more (b := n) (by rw [← e1]; exact k2) ?_).all (by rw [two_t2, ← e1]; omega)⟩
  rw [two_t2, ← e1, Nat.min_eq_right (by omega)]; exact k3
theorem l3_rest {s A : Nat} (h : L3 B n P w0 w f s A) (hA : n ≤ A + s) : L2 B n P w0 w f (2 * s) := by
  obtain ⟨g, t, e1, s1, p1, b1, f1⟩ := h
  obtain ⟨r1, r2⟩ := l3_sorted e1 f1
  refine ⟨g, s1, p1, (b1.more (b := n) (Pm.refl _ _ _) ?_).all (by rw [two_t2, ← e1]; omega)⟩
  rw [two_t2, ← e1, Nat.min_eq_right (by omega)]
  rw [Nat.min_eq_right (by omega)] at r1
  exact r1
theorem l2_end {s : Nat} (h : L2 B n P w0 w f s) (hs : n ≤ s) : ∃ g, St w0 w B n g P ∧ Pm 0 n f g ∧ Srt rk 0 n g := by
  obtain ⟨g, s1, p1, f1⟩ := h
  refine ⟨g, s1, p1, ?_⟩
  have := f1 0 (Nat.le_refl _)
  rw [Nat.zero_mul, Nat.zero_add, Nat.one_mul, Nat.min_eq_right hs] at this
  exact this
end
set_option maxRecDepth 100000 in
set_option maxHeartbeats 3200000 in
theorem stable_any (B n : Nat) (f : Nat → Nat) (P : Nat) (w0 w : World) (hS : St w0 w B n f P) (hP : P ≠ B) (hn : n ≤ 1000000000000) :
    Calls Try.prog 68 #[.slice (some ⟨B, 0, none⟩) n n, .int .i64 n, clos P] w fun e w' => e = .returned (.tuple #[]) ∧ ∃ g, St w0 w' B n g P ∧ Pm 0 n f g ∧ Srt rk 0 n g := by
  have HP : Hid (P ≠ B) := hP
  have H1 : Hid (L1 B n P w0 w f 0) := l1_start hS
  clear hS hP
  go_enter Try.func68, Try.ntmps68
  go_wp2_with fail
  go_loopw [7, 8] (fun u v wr => ∃ A : Nat, u = .int .i64 A ∧ v = .int .i64 ((A : Int) + 20) ∧ A ≤ n ∧ Hid (L1 B n P w0 wr f A)) (fun u _ _ => n - (intOf u).toNat)
  case atStart => exact ⟨0, rfl, by simp, by omega, H1⟩
  case round =>
    obtain ⟨A, rfl, rfl, a1, HA⟩ := hrel
    clear H1
    by_cases hA : A + 20 ≤ n
    · have HK : Hid (Calls Try.prog 69 #[.slice (some ⟨B, 0, none⟩) n n, .int .i64 A, .int .i64 ((A : Int) + 20), clos P] wr fun e w' => e = .returned (.tuple #[]) ∧ L1 B n P w0 w' f (A + 20)) := l1_step HA.out HP.out hn hA
      clear HA
      go_wp2_with fail
      refine HK.out.mono ?_
      rintro e w1 ⟨rfl, h1⟩
      have HA : Hid (L1 B n P w0 w1 f (A + 20)) := h1
      clear h1 HK
      go_wp2
      go_roundw
      case rel => exact ⟨A + 20, by simp, by simp, hA, HA⟩
      case measure => simp [intOf]; omega
    · have HK : Hid (Calls Try.prog 69 #[.slice (some ⟨B, 0, none⟩) n n, .int .i64 A, .int .i64 n, clos P] wr fun e w' => e = .returned (.tuple #[]) ∧ L2 B n P w0 w' f 20) := l1_end HA.out HP.out hn a1 (by omega)
      clear HA
      go_wp2_with fail
      refine HK.out.mono ?_
      rintro e w1 ⟨rfl, h1⟩
      have H2 : Hid (L2 B n P w0 w1 f 20) := h1
      clear h1 HK
      go_wp2_with fail
      go_loopw [6] (fun v wr => ∃ s : Nat, v = .int .i64 s ∧ 20 ≤ s ∧ s ≤ 4000000000000 ∧ Hid (L2 B n P w0 wr f s)) (fun v _ => (4000000000000 - intOf v).toNat)
      case atStart => exact ⟨20, rfl, Nat.le_refl _, by omega, H2⟩
      case round =>
        obtain ⟨s, rfl, q1, q2, HQ⟩ := hrel
        clear H2
        by_cases hsn : s < n
        · have H3 : Hid (L3 B n P w0 wr f s 0) := l3_start HQ.out
          clear HQ
          go_wp2_with fail
          go_loopw [7, 8] (fun u v wr => ∃ A : Nat, u = .int .i64 A ∧ v = .int .i64 ((A : Int) + 2 * (s : Int)) ∧ A ≤ n ∧ Hid (L3 B n P w0 wr f s A)) (fun u _ _ => n - (intOf u).toNat)
          case atStart => exact ⟨0, rfl, by simp, by omega, H3⟩
          case round =>
            obtain ⟨A, rfl, rfl, a1, HA⟩ := hrel
            clear H3
            by_cases hA : A + 2 * s ≤ n
            · have HK : Hid (Calls Try.prog 70 #[.slice (some ⟨B, 0, none⟩) n n, .int .i64 A, .int .i64 ((A : Int) + s), .int .i64 ((A : Int) + 2 * s), clos P] wr fun e w' => e = .returned (.tuple #[]) ∧ L3 B n P w0 w' f s (A + 2 * s)) := l3_step HA.out HP.out hn (by omega) hA
              clear HA
              go_wp2_with fail
              refine HK.out.mono ?_
              rintro e w1 ⟨rfl, h1⟩
              have HA : Hid (L3 B n P w0 w1 f s (A + 2 * s)) := h1
              clear h1 HK
              go_wp2
              go_roundw
              case rel => exact ⟨A + 2 * s, by congr 1 <;> omega, by congr 1 <;> omega, hA, HA⟩
              case measure => simp [intOf]; omega
            · by_cases hm : A + s < n
              · have HK : Hid (Calls Try.prog 70 #[.slice (some ⟨B, 0, none⟩) n n, .int .i64 A, .int .i64 ((A : Int) + s), .int .i64 n, clos P] wr fun e w' => e = .returned (.tuple #[]) ∧ L2 B n P w0 w' f (2 * s)) := l3_last HA.out HP.out hn (by omega) hm (by omega)
                clear HA
                go_wp2_with fail
                refine HK.out.mono ?_
                rintro e w1 ⟨rfl, h1⟩
                have HN : Hid (L2 B n P w0 w1 f (2 * s)) := h1
                clear h1 HK
                go_wp2
                go_roundw
                case rel => exact ⟨2 * s, by congr 1 <;> omega, by omega, by omega, HN⟩
                case measure => simp [intOf]; omega
              · have HN : Hid (L2 B n P w0 wr f (2 * s)) := l3_rest HA.out (by omega)
                clear HA
                go_wp2
                go_roundw
                case rel => exact ⟨2 * s, by congr 1 <;> omega, by omega, by omega, HN⟩
                case measure => simp [intOf]; omega
        · have HN : Hid (∃ g, St w0 wr B n g P ∧ Pm 0 n f g ∧ Srt rk 0 n g) := l2_end HQ.out (by omega)
          clear HQ
          go_wp2
          go_returns
          exact ⟨rfl, HN.out⟩
end Go.Proofs.Ytbhpdlhmkmkbhaa
