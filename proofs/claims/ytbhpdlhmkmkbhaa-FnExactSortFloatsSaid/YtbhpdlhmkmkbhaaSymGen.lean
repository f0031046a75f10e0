/- Merging two sorted stretches in place: a contract. -/
import Derived.Test.YtbhpdlhmkmkbhaaSymLow
import Derived.Test.YtbhpdlhmkmkbhaaSymHigh
namespace Go.Proofs.Ytbhpdlhmkmkbhaa
open Go.RowKit Fl Sr
set_option linter.unusedVariables false
/-- Merging is right for all stretches shorter than d. -/
def SymOK (B n P : Nat) (w0 : World) (d : Nat) : Prop := ∀ (a m b : Nat) (f : Nat → Nat) (w : World), b - a < d → St w0 w B n f P → a < m → m < b → b ≤ n → Srt rk a m f → Srt rk m b f →
  Calls Try.prog 70 #[.slice (some ⟨B, 0, none⟩) n n, .int .i64 a, .int .i64 m, .int .i64 b, clos P] w fun e w' => e = .returned (.tuple #[]) ∧ ∃ g, St w0 w' B n g P ∧ Pm a b f g ∧ Srt rk a b g
theorem rot_none {f : Nat → Nat} {s m e : Nat} (h : ¬ (s < m ∧ m < e)) (h1 : s ≤ m) (h2 : m ≤ e) : ∀ k, f k = rot f s m e k := by
  intro k; unfold rot
  repeat' split
  all_goals first | rfl | (exfalso; omega) | (congr 1; omega)
/-- Behind the search for the turning place. -/
structure Turn (B n P : Nat) (w0 w : World) (f : Nat → Nat) (a m b mid s e : Nat) : Prop where
  st : St w0 w B n f P
  l1 : a ≤ s
  l2 : s ≤ m
  l3 : m ≤ e
  l4 : e ≤ b
  l5 : s + e = mid + m
  hL : s = a ∨ e = b ∨ rk (f (s - 1)) ≤ rk (f e)
  hR : s = m ∨ e = m ∨ rk (f (e - 1)) ≤ rk (f s)
theorem rotate_at {B n P : Nat} {w0 w : World} {f : Nat → Nat} {a m b mid s e : Nat} (hT : Turn B n P w0 w f a m b mid s e) (hP : P ≠ B) (hn : n ≤ 1000000000000) (hb : b ≤ n) (h : s < m ∧ m < e) :
    Calls Try.prog 71 #[.slice (some ⟨B, 0, none⟩) n n, .int .i64 s, .int .i64 m, .int .i64 e, clos P] w fun e' w' => e' = .returned (.tuple #[]) ∧ ∃ g, St w0 w' B n g P ∧ (∀ k, g k = rot f s m e k) ∧ Pm a b f g := by
  have h1 := hT.l1
  have h2 := hT.l2
  have h3 := hT.l3
  have h4 := hT.l4
  have := rotate_any B n m (m - s) (e - m) (clos P) f P w0 w hT.st hP hn (by omega) (by omega) (by omega) (by omega)
  rw [show (m : Int) - ((m - s : Nat) : Int) = (s : Int) by omega, show (m : Int) + ((e - m : Nat) : Int) = (e : Int) by omega, show m - (m - s) = s by omega, show m + (e - m) = e by omega] at this
  refine this.mono ?_
  rintro e' w' ⟨rfl, g, g1, g2, g3⟩
  exact ⟨rfl, g, g1, g2, g3.wide (by omega) (by omega)⟩
/-- The state behind the rotation. -/
def Rotd (B n P : Nat) (w0 w : World) (f : Nat → Nat) (a m b s e : Nat) : Prop := ∃ g, St w0 w B n g P ∧ (∀ k, g k = rot f s m e k) ∧ Pm a b f g
/-- .. behind the first lesser merge. -/
def Half (B n P : Nat) (w0 w : World) (f : Nat → Nat) (a m b mid s e : Nat) : Prop := ∃ g g1, (∀ k, g k = rot f s m e k) ∧ Pm a b f g ∧ St w0 w B n g1 P ∧ Pm a mid g g1 ∧ Srt rk a mid g1
/-- .. behind the second. -/
def Whole (B n P : Nat) (w0 w : World) (f : Nat → Nat) (a b : Nat) : Prop := ∃ g, St w0 w B n g P ∧ Pm a b f g ∧ Srt rk a b g
section
variable {B n P : Nat} {w0 w w1 : World} {f : Nat → Nat} {a m b mid s e : Nat}
theorem half_call (hT : Turn B n P w0 w f a m b mid s e) (h1 : Srt rk a m f) (h2 : Srt rk m b f) (hR : Rotd B n P w0 w1 f a m b s e) (I : SymOK B n P w0 (b - a)) (hb : b ≤ n) (hmid : mid < b) (h : a < s ∧ s < mid) :
    Calls Try.prog 70 #[.slice (some ⟨B, 0, none⟩) n n, .int .i64 a, .int .i64 s, .int .i64 mid, clos P] w1 fun e' w' => e' = .returned (.tuple #[]) ∧ Half B n P w0 w' f a m b mid s e := by
  obtain ⟨g, g1, g2, g3⟩ := hR
  obtain ⟨r1, r2, r3, r4, r5⟩ := rotated h1 h2 hT.l1 hT.l2 hT.l3 hT.l4 hT.l5 hT.hL hT.hR g2
  refine (I a s mid g w1 (by omega) g1 h.1 h.2 (by omega) r1 r2).mono ?_
  rintro e' w' ⟨rfl, k, k1, k2, k3⟩
  exact ⟨rfl, g, k, g2, g3, k1, k2, k3⟩
theorem half_none (hT : Turn B n P w0 w f a m b mid s e) (h1 : Srt rk a m f) (h2 : Srt rk m b f) (hR : Rotd B n P w0 w1 f a m b s e) (h : ¬ (a < s ∧ s < mid)) : Half B n P w0 w1 f a m b mid s e := by
  obtain ⟨g, g1, g2, g3⟩ := hR
  have l1 := hT.l1
  obtain ⟨r1, r2, r3, r4, r5⟩ := rotated h1 h2 hT.l1 hT.l2 hT.l3 hT.l4 hT.l5 hT.hL hT.hR g2
  refine ⟨g, g, g2, g3, g1, Pm.refl _ _ _, ?_⟩
  by_cases c : a < s
  · exact r1.sub (Nat.le_refl _) (by omega)
  · exact r2.sub (by omega) (Nat.le_refl _)
theorem whole_call (hT : Turn B n P w0 w f a m b mid s e) (h1 : Srt rk a m f) (h2 : Srt rk m b f) (hH : Half B n P w0 w1 f a m b mid s e) (I : SymOK B n P w0 (b - a)) (hb : b ≤ n) (hmid : a < mid) (hmb : mid ≤ b) (h : mid < e ∧ e < b) :
    Calls Try.prog 70 #[.slice (some ⟨B, 0, none⟩) n n, .int .i64 mid, .int .i64 e, .int .i64 b, clos P] w1 fun e' w' => e' = .returned (.tuple #[]) ∧ Whole B n P w0 w' f a b := by
  obtain ⟨g, k, g2, g3, k1, k2, k3⟩ := hH
  obtain ⟨r1, r2, r3, r4, r5⟩ := rotated h1 h2 hT.l1 hT.l2 hT.l3 hT.l4 hT.l5 hT.hL hT.hR g2
  refine (I mid e b k w1 (by omega) k1 h.1 h.2 hb (r3.congr fun t t1 t2 => k2.out (Or.inr t1)) (r4.congr fun t t1 t2 => k2.out (Or.inr (by omega)))).mono ?_
  rintro e' w' ⟨rfl, z, z1, z2, z3⟩
  obtain ⟨y1, y2⟩ := merged (by omega) hmb k2 k3 z2 z3 r5
  exact ⟨rfl, z, z1, g3.trans y2, y1⟩
theorem whole_none (hT : Turn B n P w0 w f a m b mid s e) (h1 : Srt rk a m f) (h2 : Srt rk m b f) (hH : Half B n P w0 w1 f a m b mid s e) (hmid : a ≤ mid) (hmb : mid ≤ b) (h : ¬ (mid < e ∧ e < b)) : Whole B n P w0 w1 f a b := by
  obtain ⟨g, k, g2, g3, k1, k2, k3⟩ := hH
  have l4 := hT.l4
  obtain ⟨r1, r2, r3, r4, r5⟩ := rotated h1 h2 hT.l1 hT.l2 hT.l3 hT.l4 hT.l5 hT.hL hT.hR g2
  have s2 : Srt rk mid b k := by
    by_cases c : mid < e
    · exact (r3.sub (Nat.le_refl _) (by omega)).congr fun t t1 t2 => k2.out (Or.inr t1)
    · exact (r4.sub (by omega) (Nat.le_refl _)).congr fun t t1 t2 => k2.out (Or.inr t1)
  obtain ⟨y1, y2⟩ := merged hmid hmb k2 k3 (Pm.refl mid b k) s2 r5
  exact ⟨k, k1, g3.trans y2, y1⟩
end
set_option maxRecDepth 100000 in
set_option maxHeartbeats 6400000 in
theorem sym_hi (B n a m b mid : Nat) (f : Nat → Nat) (P : Nat) (w0 w : World) (hS : St w0 w B n f P) (hP : P ≠ B) (hn : n ≤ 1000000000000) (h1 : a + 1 < m) (h2 : m + 1 < b) (hb : b ≤ n) (hmid : ((a : Int) + (b : Int)) / 2 = (mid : Int)) (hm : mid < m)
    (I : SymOK B n P w0 (b - a)) (hs1 : Srt rk a m f) (hs2 : Srt rk m b f) :
    Calls Try.prog 70 #[.slice (some ⟨B, 0, none⟩) n n, .int .i64 a, .int .i64 m, .int .i64 b, clos P] w fun e w' => e = .returned (.tuple #[]) ∧ Whole B n P w0 w' f a b := by
  have HS : Hid (St w0 w B n f P ∧ P ≠ B ∧ Srt rk a m f ∧ Srt rk m b f ∧ SymOK B n P w0 (b - a)) := ⟨hS, hP, hs1, hs2, I⟩
  clear hS hP hs1 hs2 I
  have m1 : a < mid := by omega
  have m2 : mid < b := by omega
  have m3 : 2 * mid ≤ a + b := by omega
  have m4 : a + b ≤ 2 * mid + 1 := by omega
  have hq0 : ((m : Int) - (a : Int) == 1) = false := by simp; omega
  have hq : ((b : Int) - (m : Int) == 1) = false := by simp; omega
  have hq2 : decide ((mid : Int) < (m : Int)) = true := decide_eq_true (by omega)
  have hq3 : decide (mid < m) = true := decide_eq_true (by omega)
  obtain ⟨S0, hS0⟩ : ∃ S0 : Nat, S0 = (mid + m - b) := ⟨_, rfl⟩
  have hS1 : (mid : Int) + (m : Int) - (b : Int) = (S0 : Int) := by omega
  have HS0 : Hid (S0 = mid + m - b) := hS0
  have sA : a ≤ S0 := by omega
  have sB : S0 ≤ mid := by omega
  have sC : S0 + b ≥ mid + m := by omega
  clear hS0
  go_enter Try.func70, Try.ntmps70
  go_wp2_with fail
  go_loopw [20, 21] (fun u v wr => ∃ s r : Nat, u = .int .i64 s ∧ v = .int .i64 r ∧ S0 ≤ s ∧ s ≤ r ∧ r ≤ mid ∧ Hid (St w0 wr B n f P ∧ (s = S0 ∨ rk (f (s - 1)) ≤ rk (f (mid + m - s))) ∧ (r = mid ∨ rk (f (mid + m - 1 - r)) ≤ rk (f r)))) (fun u v _ => (intOf v).toNat - (intOf u).toNat)
  case atStart => exact ⟨S0, mid, by first | rfl | (congr 1; omega), rfl, Nat.le_refl _, by omega, Nat.le_refl _, HS.out.1, Or.inl rfl, Or.inl rfl⟩
  case round =>
    obtain ⟨s, r, rfl, rfl, l1, l2, l3, HG⟩ := hrel
    by_cases hij : s < r
    · obtain ⟨c, hc⟩ : ∃ c : Nat, ((s : Int) + (r : Int)) / 2 = (c : Int) := ⟨(s + r) / 2, by omega⟩
      have c1 : s ≤ c := by omega
      have c2 : c < r := by omega
      obtain ⟨d, hd⟩ : ∃ d : Nat, (mid : Int) + (m : Int) - 1 - (c : Int) = (d : Int) := ⟨mid + m - 1 - c, by omega⟩
      have d1 : d < n := by omega
      obtain ⟨x, y, cv, g1, g2, HC, HL, HR⟩ : ∃ (x y : Nat) (cv : Int), wr.cell? ⟨B, d, none⟩ = some (.float .f64 x) ∧ wr.cell? ⟨B, c, none⟩ = some (.float .f64 y) ∧
          Hid (∀ q, Calls Try.prog 66 #[.float .f64 x, .float .f64 y, .pointer (some ⟨P, 0, none⟩)] (wr.drewN q) fun e w' => e = .returned (.int .i64 cv) ∧ wr.drewN q = w') ∧
          Hid (¬ cv < 0 → ∀ q, St w0 (wr.drewN q) B n f P ∧ (c + 1 = S0 ∨ rk (f (c + 1 - 1)) ≤ rk (f (mid + m - (c + 1)))) ∧ (r = mid ∨ rk (f (mid + m - 1 - r)) ≤ rk (f r))) ∧
          Hid (cv < 0 → ∀ q, St w0 (wr.drewN q) B n f P ∧ (s = S0 ∨ rk (f (s - 1)) ≤ rk (f (mid + m - s))) ∧ (c = mid ∨ rk (f (mid + m - 1 - c)) ≤ rk (f c))) := by
        obtain ⟨s1, s2, s3⟩ := HG.out
        have hdd : d = mid + m - 1 - c := by omega
        refine ⟨f d, f c, cmpF (f d) (f c), s1.cell (by omega), s1.cell (by omega), fun q => clos_any (s1.lt _ (by omega)) (s1.lt _ (by omega)) _ (s1.drewN q).fn, fun k q => ?_, fun k q => ?_⟩
        · rw [cmpF_neg] at k
          refine ⟨s1.drewN q, Or.inr ?_, s3⟩
          rw [Nat.add_sub_cancel, show mid + m - (c + 1) = d by omega]
          omega
        · rw [cmpF_neg] at k
          refine ⟨s1.drewN q, s2, Or.inr ?_⟩
          rw [← hdd]
          omega
      clear HG
      by_cases hcv : cv < 0
      · have hdc : decide (cv < 0) = true := decide_eq_true hcv
        have HN : Hid (∀ q, St w0 (wr.drewN q) B n f P ∧ (s = S0 ∨ rk (f (s - 1)) ≤ rk (f (mid + m - s))) ∧ (c = mid ∨ rk (f (mid + m - 1 - c)) ≤ rk (f c))) := HR.out hcv
        clear HL HR
        go_wp2
        go_quiet (first | (go_at_call 66; exact quiet_eq (HC.out _)))
        clear g1 g2 HC
        go_wp2
        go_roundw
        case rel => exact ⟨s, c, rfl, by simp, l1, by omega, by omega, HN.out _⟩
        case measure => simp [intOf]; omega
      · have hdc : decide (cv < 0) = false := decide_eq_false hcv
        have HN : Hid (∀ q, St w0 (wr.drewN q) B n f P ∧ (c + 1 = S0 ∨ rk (f (c + 1 - 1)) ≤ rk (f (mid + m - (c + 1)))) ∧ (r = mid ∨ rk (f (mid + m - 1 - r)) ≤ rk (f r))) := HL.out hcv
        clear HL HR
        go_wp2
        go_quiet (first | (go_at_call 66; exact quiet_eq (HC.out _)))
        clear g1 g2 HC
        go_wp2
        go_roundw
        case rel => exact ⟨c + 1, r, by simp, rfl, by omega, by omega, l3, HN.out _⟩
        case measure => simp [intOf]; omega
    · obtain rfl : s = r := by omega
      obtain ⟨e, he⟩ : ∃ e : Nat, (mid : Int) + (m : Int) - (s : Int) = (e : Int) := ⟨mid + m - s, by omega⟩
      have e1 : m ≤ e := by omega
      have e2 : e ≤ b := by omega
      have HT : Hid (Turn B n P w0 wr f a m b mid s e) := by
        obtain ⟨s1, s2, s3⟩ := HG.out
        have z := HS0.out
        refine ⟨s1, by omega, by omega, e1, e2, by omega, ?_, ?_⟩
        · rcases s2 with k | k
          · right; left; omega
          · right; right; rw [show mid + m - s = e by omega] at k; exact k
        · rcases s3 with k | k
          · right; left; omega
          · right; right; rw [show mid + m - 1 - s = e - 1 by omega] at k; exact k
      clear HG
      by_cases k1 : s < m ∧ m < e
      · have k1a := k1.1
        have k1b := k1.2
        have HK : Hid (Calls Try.prog 71 #[.slice (some ⟨B, 0, none⟩) n n, .int .i64 s, .int .i64 m, .int .i64 e, clos P] wr fun e' w' => e' = .returned (.tuple #[]) ∧ Rotd B n P w0 w' f a m b s e) := rotate_at HT.out HS.out.2.1 hn hb k1
        clear k1
        go_wp2_with fail
        refine HK.out.mono ?_
        rintro e' wx ⟨rfl, hx⟩
        have HR : Hid (Rotd B n P w0 wx f a m b s e) := hx
        clear hx HK
        by_cases k2 : a < s ∧ s < mid
        · have k2a := k2.1
          have k2b := k2.2
          have HK : Hid (Calls Try.prog 70 #[.slice (some ⟨B, 0, none⟩) n n, .int .i64 a, .int .i64 s, .int .i64 mid, clos P] wx fun e' w' => e' = .returned (.tuple #[]) ∧ Half B n P w0 w' f a m b mid s e) := half_call HT.out HS.out.2.2.1 HS.out.2.2.2.1 HR.out HS.out.2.2.2.2 hb m2 k2
          clear k2 HR
          go_wp2_with fail
          refine HK.out.mono ?_
          rintro e' wz ⟨rfl, hz⟩
          have HH : Hid (Half B n P w0 wz f a m b mid s e) := hz
          clear hz HK
          by_cases k3 : mid < e ∧ e < b
          · have k3a := k3.1
            have k3b := k3.2
            have HK : Hid (Calls Try.prog 70 #[.slice (some ⟨B, 0, none⟩) n n, .int .i64 mid, .int .i64 e, .int .i64 b, clos P] wz fun e' w' => e' = .returned (.tuple #[]) ∧ Whole B n P w0 w' f a b) := whole_call HT.out HS.out.2.2.1 HS.out.2.2.2.1 HH.out HS.out.2.2.2.2 hb m1 (by omega) k3
            clear k3 HH HT
            go_wp2_with fail
            refine HK.out.mono ?_
            rintro e' wy ⟨rfl, hy⟩
            have HY : Hid (Whole B n P w0 wy f a b) := hy
            clear hy HK
            go_wp2
            go_returns
            exact ⟨rfl, HY.out⟩
          · have HY : Hid (Whole B n P w0 wz f a b) := whole_none HT.out HS.out.2.2.1 HS.out.2.2.2.1 HH.out (by omega) (by omega) k3
            clear HH HT
            by_cases k4 : mid < e
            · have k5 : ¬ e < b := fun h => k3 ⟨k4, h⟩
              clear k3
              go_wp2
              go_returns
              exact ⟨rfl, HY.out⟩
            · clear k3
              go_wp2
              go_returns
              exact ⟨rfl, HY.out⟩
        · have HH : Hid (Half B n P w0 wx f a m b mid s e) := half_none HT.out HS.out.2.2.1 HS.out.2.2.2.1 HR.out k2
          clear HR
          obtain ⟨wz, hwz⟩ : ∃ wz, wz = wx := ⟨_, rfl⟩
          subst hwz
          by_cases k6 : a < s
          · have k7 : ¬ s < mid := fun h => k2 ⟨k6, h⟩
            clear k2
            by_cases k3 : mid < e ∧ e < b
            · have k3a := k3.1
              have k3b := k3.2
              have HK : Hid (Calls Try.prog 70 #[.slice (some ⟨B, 0, none⟩) n n, .int .i64 mid, .int .i64 e, .int .i64 b, clos P] wz fun e' w' => e' = .returned (.tuple #[]) ∧ Whole B n P w0 w' f a b) := whole_call HT.out HS.out.2.2.1 HS.out.2.2.2.1 HH.out HS.out.2.2.2.2 hb m1 (by omega) k3
              clear k3 HH HT
              go_wp2_with fail
              refine HK.out.mono ?_
              rintro e' wy ⟨rfl, hy⟩
              have HY : Hid (Whole B n P w0 wy f a b) := hy
              clear hy HK
              go_wp2
              go_returns
              exact ⟨rfl, HY.out⟩
            · have HY : Hid (Whole B n P w0 wz f a b) := whole_none HT.out HS.out.2.2.1 HS.out.2.2.2.1 HH.out (by omega) (by omega) k3
              clear HH HT
              by_cases k4 : mid < e
              · have k5 : ¬ e < b := fun h => k3 ⟨k4, h⟩
                clear k3
                go_wp2
                go_returns
                exact ⟨rfl, HY.out⟩
              · clear k3
                go_wp2
                go_returns
                exact ⟨rfl, HY.out⟩
          · clear k2
            by_cases k3 : mid < e ∧ e < b
            · have k3a := k3.1
              have k3b := k3.2
              have HK : Hid (Calls Try.prog 70 #[.slice (some ⟨B, 0, none⟩) n n, .int .i64 mid, .int .i64 e, .int .i64 b, clos P] wz fun e' w' => e' = .returned (.tuple #[]) ∧ Whole B n P w0 w' f a b) := whole_call HT.out HS.out.2.2.1 HS.out.2.2.2.1 HH.out HS.out.2.2.2.2 hb m1 (by omega) k3
              clear k3 HH HT
              go_wp2_with fail
              refine HK.out.mono ?_
              rintro e' wy ⟨rfl, hy⟩
              have HY : Hid (Whole B n P w0 wy f a b) := hy
              clear hy HK
              go_wp2
              go_returns
              exact ⟨rfl, HY.out⟩
            · have HY : Hid (Whole B n P w0 wz f a b) := whole_none HT.out HS.out.2.2.1 HS.out.2.2.2.1 HH.out (by omega) (by omega) k3
              clear HH HT
              by_cases k4 : mid < e
              · have k5 : ¬ e < b := fun h => k3 ⟨k4, h⟩
                clear k3
                go_wp2
                go_returns
                exact ⟨rfl, HY.out⟩
              · clear k3
                go_wp2
                go_returns
                exact ⟨rfl, HY.out⟩
      · have HR : Hid (Rotd B n P w0 wr f a m b s e) := ⟨f, HT.out.st, rot_none k1 HT.out.l2 HT.out.l3, Pm.refl _ _ _⟩
        obtain ⟨wx, hwx⟩ : ∃ wx, wx = wr := ⟨_, rfl⟩
        subst hwx
        by_cases k8 : s < m
        · have k9 : ¬ m < e := fun h => k1 ⟨k8, h⟩
          clear k1
          by_cases k2 : a < s ∧ s < mid
          · have k2a := k2.1
            have k2b := k2.2
            have HK : Hid (Calls Try.prog 70 #[.slice (some ⟨B, 0, none⟩) n n, .int .i64 a, .int .i64 s, .int .i64 mid, clos P] wx fun e' w' => e' = .returned (.tuple #[]) ∧ Half B n P w0 w' f a m b mid s e) := half_call HT.out HS.out.2.2.1 HS.out.2.2.2.1 HR.out HS.out.2.2.2.2 hb m2 k2
            clear k2 HR
            go_wp2_with fail
            refine HK.out.mono ?_
            rintro e' wz ⟨rfl, hz⟩
            have HH : Hid (Half B n P w0 wz f a m b mid s e) := hz
            clear hz HK
            by_cases k3 : mid < e ∧ e < b
            · have k3a := k3.1
              have k3b := k3.2
              have HK : Hid (Calls Try.prog 70 #[.slice (some ⟨B, 0, none⟩) n n, .int .i64 mid, .int .i64 e, .int .i64 b, clos P] wz fun e' w' => e' = .returned (.tuple #[]) ∧ Whole B n P w0 w' f a b) := whole_call HT.out HS.out.2.2.1 HS.out.2.2.2.1 HH.out HS.out.2.2.2.2 hb m1 (by omega) k3
              clear k3 HH HT
              go_wp2_with fail
              refine HK.out.mono ?_
              rintro e' wy ⟨rfl, hy⟩
              have HY : Hid (Whole B n P w0 wy f a b) := hy
              clear hy HK
              go_wp2
              go_returns
              exact ⟨rfl, HY.out⟩
            · have HY : Hid (Whole B n P w0 wz f a b) := whole_none HT.out HS.out.2.2.1 HS.out.2.2.2.1 HH.out (by omega) (by omega) k3
              clear HH HT
              by_cases k4 : mid < e
              · have k5 : ¬ e < b := fun h => k3 ⟨k4, h⟩
                clear k3
                go_wp2
                go_returns
                exact ⟨rfl, HY.out⟩
              · clear k3
                go_wp2
                go_returns
                exact ⟨rfl, HY.out⟩
          · have HH : Hid (Half B n P w0 wx f a m b mid s e) := half_none HT.out HS.out.2.2.1 HS.out.2.2.2.1 HR.out k2
            clear HR
            obtain ⟨wz, hwz⟩ : ∃ wz, wz = wx := ⟨_, rfl⟩
            subst hwz
            by_cases k6 : a < s
            · have k7 : ¬ s < mid := fun h => k2 ⟨k6, h⟩
              clear k2
              by_cases k3 : mid < e ∧ e < b
              · have k3a := k3.1
                have k3b := k3.2
                have HK : Hid (Calls Try.prog 70 #[.slice (some ⟨B, 0, none⟩) n n, .int .i64 mid, .int .i64 e, .int .i64 b, clos P] wz fun e' w' => e' = .returned (.tuple #[]) ∧ Whole B n P w0 w' f a b) := whole_call HT.out HS.out.2.2.1 HS.out.2.2.2.1 HH.out HS.out.2.2.2.2 hb m1 (by omega) k3
                clear k3 HH HT
                go_wp2_with fail
                refine HK.out.mono ?_
                rintro e' wy ⟨rfl, hy⟩
                have HY : Hid (Whole B n P w0 wy f a b) := hy
                clear hy HK
                go_wp2
                go_returns
                exact ⟨rfl, HY.out⟩
              · have HY : Hid (Whole B n P w0 wz f a b) := whole_none HT.out HS.out.2.2.1 HS.out.2.2.2.1 HH.out (by omega) (by omega) k3
                clear HH HT
                by_cases k4 : mid < e
                · have k5 : ¬ e < b := fun h => k3 ⟨k4, h⟩
                  clear k3
                  go_wp2
                  go_returns
                  exact ⟨rfl, HY.out⟩
                · clear k3
                  go_wp2
                  go_returns
                  exact ⟨rfl, HY.out⟩
            · clear k2
              by_cases k3 : mid < e ∧ e < b
              · have k3a := k3.1
                have k3b := k3.2
                have HK : Hid (Calls Try.prog 70 #[.slice (some ⟨B, 0, none⟩) n n, .int .i64 mid, .int .i64 e, .int .i64 b, clos P] wz fun e' w' => e' = .returned (.tuple #[]) ∧ Whole B n P w0 w' f a b) := whole_call HT.out HS.out.2.2.1 HS.out.2.2.2.1 HH.out HS.out.2.2.2.2 hb m1 (by omega) k3
                clear k3 HH HT
                go_wp2_with fail
                refine HK.out.mono ?_
                rintro e' wy ⟨rfl, hy⟩
                have HY : Hid (Whole B n P w0 wy f a b) := hy
                clear hy HK
                go_wp2
                go_returns
                exact ⟨rfl, HY.out⟩
              · have HY : Hid (Whole B n P w0 wz f a b) := whole_none HT.out HS.out.2.2.1 HS.out.2.2.2.1 HH.out (by omega) (by omega) k3
                clear HH HT
                by_cases k4 : mid < e
                · have k5 : ¬ e < b := fun h => k3 ⟨k4, h⟩
                  clear k3
                  go_wp2
                  go_returns
                  exact ⟨rfl, HY.out⟩
                · clear k3
                  go_wp2
                  go_returns
                  exact ⟨rfl, HY.out⟩
        · clear k1
          by_cases k2 : a < s ∧ s < mid
          · have k2a := k2.1
            have k2b := k2.2
            have HK : Hid (Calls Try.prog 70 #[.slice (some ⟨B, 0, none⟩) n n, .int .i64 a, .int .i64 s, .int .i64 mid, clos P] wx fun e' w' => e' = .returned (.tuple #[]) ∧ Half B n P w0 w' f a m b mid s e) := half_call HT.out HS.out.2.2.1 HS.out.2.2.2.1 HR.out HS.out.2.2.2.2 hb m2 k2
            clear k2 HR
            go_wp2_with fail
            refine HK.out.mono ?_
            rintro e' wz ⟨rfl, hz⟩
            have HH : Hid (Half B n P w0 wz f a m b mid s e) := hz
            clear hz HK
            by_cases k3 : mid < e ∧ e < b
            · have k3a := k3.1
              have k3b := k3.2
              have HK : Hid (Calls Try.prog 70 #[.slice (some ⟨B, 0, none⟩) n n, .int .i64 mid, .int .i64 e, .int .i64 b, clos P] wz fun e' w' => e' = .returned (.tuple #[]) ∧ Whole B n P w0 w' f a b) := whole_call HT.out HS.out.2.2.1 HS.out.2.2.2.1 HH.out HS.out.2.2.2.2 hb m1 (by omega) k3
              clear k3 HH HT
              go_wp2_with fail
              refine HK.out.mono ?_
              rintro e' wy ⟨rfl, hy⟩
              have HY : Hid (Whole B n P w0 wy f a b) := hy
              clear hy HK
              go_wp2
              go_returns
              exact ⟨rfl, HY.out⟩
            · have HY : Hid (Whole B n P w0 wz f a b) := whole_none HT.out HS.out.2.2.1 HS.out.2.2.2.1 HH.out (by omega) (by omega) k3
              clear HH HT
              by_cases k4 : mid < e
              · have k5 : ¬ e < b := fun h => k3 ⟨k4, h⟩
                clear k3
                go_wp2
                go_returns
                exact ⟨rfl, HY.out⟩
              · clear k3
                go_wp2
                go_returns
                exact ⟨rfl, HY.out⟩
          · have HH : Hid (Half B n P w0 wx f a m b mid s e) := half_none HT.out HS.out.2.2.1 HS.out.2.2.2.1 HR.out k2
            clear HR
            obtain ⟨wz, hwz⟩ : ∃ wz, wz = wx := ⟨_, rfl⟩
            subst hwz
            by_cases k6 : a < s
            · have k7 : ¬ s < mid := fun h => k2 ⟨k6, h⟩
              clear k2
              by_cases k3 : mid < e ∧ e < b
              · have k3a := k3.1
                have k3b := k3.2
                have HK : Hid (Calls Try.prog 70 #[.slice (some ⟨B, 0, none⟩) n n, .int .i64 mid, .int .i64 e, .int .i64 b, clos P] wz fun e' w' => e' = .returned (.tuple #[]) ∧ Whole B n P w0 w' f a b) := whole_call HT.out HS.out.2.2.1 HS.out.2.2.2.1 HH.out HS.out.2.2.2.2 hb m1 (by omega) k3
                clear k3 HH HT
                go_wp2_with fail
                refine HK.out.mono ?_
                rintro e' wy ⟨rfl, hy⟩
                have HY : Hid (Whole B n P w0 wy f a b) := hy
                clear hy HK
                go_wp2
                go_returns
                exact ⟨rfl, HY.out⟩
              · have HY : Hid (Whole B n P w0 wz f a b) := whole_none HT.out HS.out.2.2.1 HS.out.2.2.2.1 HH.out (by omega) (by omega) k3
                clear HH HT
                by_cases k4 : mid < e
                · have k5 : ¬ e < b := fun h => k3 ⟨k4, h⟩
                  clear k3
                  go_wp2
                  go_returns
                  exact ⟨rfl, HY.out⟩
                · clear k3
                  go_wp2
                  go_returns
                  exact ⟨rfl, HY.out⟩
            · clear k2
              by_cases k3 : mid < e ∧ e < b
              · have k3a := k3.1
                have k3b := k3.2
                have HK : Hid (Calls Try.prog 70 #[.slice (some ⟨B, 0, none⟩) n n, .int .i64 mid, .int .i64 e, .int .i64 b, clos P] wz fun e' w' => e' = .returned (.tuple #[]) ∧ Whole B n P w0 w' f a b) := whole_call HT.out HS.out.2.2.1 HS.out.2.2.2.1 HH.out HS.out.2.2.2.2 hb m1 (by omega) k3
                clear k3 HH HT
                go_wp2_with fail
                refine HK.out.mono ?_
                rintro e' wy ⟨rfl, hy⟩
                have HY : Hid (Whole B n P w0 wy f a b) := hy
                clear hy HK
                go_wp2
                go_returns
                exact ⟨rfl, HY.out⟩
              · have HY : Hid (Whole B n P w0 wz f a b) := whole_none HT.out HS.out.2.2.1 HS.out.2.2.2.1 HH.out (by omega) (by omega) k3
                clear HH HT
                by_cases k4 : mid < e
                · have k5 : ¬ e < b := fun h => k3 ⟨k4, h⟩
                  clear k3
                  go_wp2
                  go_returns
                  exact ⟨rfl, HY.out⟩
                · clear k3
                  go_wp2
                  go_returns
                  exact ⟨rfl, HY.out⟩
set_option maxRecDepth 100000 in
set_option maxHeartbeats 6400000 in
theorem sym_lo (B n a m b mid : Nat) (f : Nat → Nat) (P : Nat) (w0 w : World) (hS : St w0 w B n f P) (hP : P ≠ B) (hn : n ≤ 1000000000000) (h1 : a + 1 < m) (h2 : m + 1 < b) (hb : b ≤ n) (hmid : ((a : Int) + (b : Int)) / 2 = (mid : Int)) (hm : m ≤ mid)
    (I : SymOK B n P w0 (b - a)) (hs1 : Srt rk a m f) (hs2 : Srt rk m b f) :
    Calls Try.prog 70 #[.slice (some ⟨B, 0, none⟩) n n, .int .i64 a, .int .i64 m, .int .i64 b, clos P] w fun e w' => e = .returned (.tuple #[]) ∧ Whole B n P w0 w' f a b := by
  have HS : Hid (St w0 w B n f P ∧ P ≠ B ∧ Srt rk a m f ∧ Srt rk m b f ∧ SymOK B n P w0 (b - a)) := ⟨hS, hP, hs1, hs2, I⟩
  clear hS hP hs1 hs2 I
  have m1 : a < mid := by omega
  have m2 : mid < b := by omega
  have m3 : 2 * mid ≤ a + b := by omega
  have m4 : a + b ≤ 2 * mid + 1 := by omega
  have hq0 : ((m : Int) - (a : Int) == 1) = false := by simp; omega
  have hq : ((b : Int) - (m : Int) == 1) = false := by simp; omega
  have hq2 : decide ((mid : Int) < (m : Int)) = false := decide_eq_false (by omega)
  have hq3 : decide (mid < m) = false := decide_eq_false (by omega)
  obtain ⟨S0, hS0⟩ : ∃ S0 : Nat, S0 = a := ⟨_, rfl⟩
  have HS0 : Hid (S0 = a) := hS0
  have sA : a ≤ S0 := by omega
  have sB : S0 ≤ m := by omega
  have sC : S0 + b ≥ mid + m := by omega
  clear hS0
  go_enter Try.func70, Try.ntmps70
  go_wp2_with fail
  go_loopw [20, 21] (fun u v wr => ∃ s r : Nat, u = .int .i64 s ∧ v = .int .i64 r ∧ S0 ≤ s ∧ s ≤ r ∧ r ≤ m ∧ Hid (St w0 wr B n f P ∧ (s = S0 ∨ rk (f (s - 1)) ≤ rk (f (mid + m - s))) ∧ (r = m ∨ rk (f (mid + m - 1 - r)) ≤ rk (f r)))) (fun u v _ => (intOf v).toNat - (intOf u).toNat)
  case atStart => exact ⟨a, m, by first | rfl | (congr 1; omega), rfl, by have := HS0.out; omega, by omega, Nat.le_refl _, HS.out.1, Or.inl (HS0.out).symm, Or.inl rfl⟩
  case round =>
    obtain ⟨s, r, rfl, rfl, l1, l2, l3, HG⟩ := hrel
    by_cases hij : s < r
    · obtain ⟨c, hc⟩ : ∃ c : Nat, ((s : Int) + (r : Int)) / 2 = (c : Int) := ⟨(s + r) / 2, by omega⟩
      have c1 : s ≤ c := by omega
      have c2 : c < r := by omega
      obtain ⟨d, hd⟩ : ∃ d : Nat, (mid : Int) + (m : Int) - 1 - (c : Int) = (d : Int) := ⟨mid + m - 1 - c, by omega⟩
      have d1 : d < n := by omega
      obtain ⟨x, y, cv, g1, g2, HC, HL, HR⟩ : ∃ (x y : Nat) (cv : Int), wr.cell? ⟨B, d, none⟩ = some (.float .f64 x) ∧ wr.cell? ⟨B, c, none⟩ = some (.float .f64 y) ∧
          Hid (∀ q, Calls Try.prog 66 #[.float .f64 x, .float .f64 y, .pointer (some ⟨P, 0, none⟩)] (wr.drewN q) fun e w' => e = .returned (.int .i64 cv) ∧ wr.drewN q = w') ∧
          Hid (¬ cv < 0 → ∀ q, St w0 (wr.drewN q) B n f P ∧ (c + 1 = S0 ∨ rk (f (c + 1 - 1)) ≤ rk (f (mid + m - (c + 1)))) ∧ (r = m ∨ rk (f (mid + m - 1 - r)) ≤ rk (f r))) ∧
          Hid (cv < 0 → ∀ q, St w0 (wr.drewN q) B n f P ∧ (s = S0 ∨ rk (f (s - 1)) ≤ rk (f (mid + m - s))) ∧ (c = m ∨ rk (f (mid + m - 1 - c)) ≤ rk (f c))) := by
        obtain ⟨s1, s2, s3⟩ := HG.out
        have hdd : d = mid + m - 1 - c := by omega
        refine ⟨f d, f c, cmpF (f d) (f c), s1.cell (by omega), s1.cell (by omega), fun q => clos_any (s1.lt _ (by omega)) (s1.lt _ (by omega)) _ (s1.drewN q).fn, fun k q => ?_, fun k q => ?_⟩
        · rw [cmpF_neg] at k
          refine ⟨s1.drewN q, Or.inr ?_, s3⟩
          rw [Nat.add_sub_cancel, show mid + m - (c + 1) = d by omega]
          omega
        · rw [cmpF_neg] at k
          refine ⟨s1.drewN q, s2, Or.inr ?_⟩
          rw [← hdd]
          omega
      clear HG
      by_cases hcv : cv < 0
      · have hdc : decide (cv < 0) = true := decide_eq_true hcv
        have HN : Hid (∀ q, St w0 (wr.drewN q) B n f P ∧ (s = S0 ∨ rk (f (s - 1)) ≤ rk (f (mid + m - s))) ∧ (c = m ∨ rk (f (mid + m - 1 - c)) ≤ rk (f c))) := HR.out hcv
        clear HL HR
        go_wp2
        go_quiet (first | (go_at_call 66; exact quiet_eq (HC.out _)))
        clear g1 g2 HC
        go_wp2
        go_roundw
        case rel => exact ⟨s, c, rfl, by simp, l1, by omega, by omega, HN.out _⟩
        case measure => simp [intOf]; omega
      · have hdc : decide (cv < 0) = false := decide_eq_false hcv
        have HN : Hid (∀ q, St w0 (wr.drewN q) B n f P ∧ (c + 1 = S0 ∨ rk (f (c + 1 - 1)) ≤ rk (f (mid + m - (c + 1)))) ∧ (r = m ∨ rk (f (mid + m - 1 - r)) ≤ rk (f r))) := HL.out hcv
        clear HL HR
        go_wp2
        go_quiet (first | (go_at_call 66; exact quiet_eq (HC.out _)))
        clear g1 g2 HC
        go_wp2
        go_roundw
        case rel => exact ⟨c + 1, r, by simp, rfl, by omega, by omega, l3, HN.out _⟩
        case measure => simp [intOf]; omega
    · obtain rfl : s = r := by omega
      obtain ⟨e, he⟩ : ∃ e : Nat, (mid : Int) + (m : Int) - (s : Int) = (e : Int) := ⟨mid + m - s, by omega⟩
      have e1 : m ≤ e := by omega
      have e2 : e ≤ b := by omega
      have HT : Hid (Turn B n P w0 wr f a m b mid s e) := by
        obtain ⟨s1, s2, s3⟩ := HG.out
        have z := HS0.out
        refine ⟨s1, by omega, by omega, e1, e2, by omega, ?_, ?_⟩
        · rcases s2 with k | k
          · left; omega
          · right; right; rw [show mid + m - s = e by omega] at k; exact k
        · rcases s3 with k | k
          · left; omega
          · right; right; rw [show mid + m - 1 - s = e - 1 by omega] at k; exact k
      clear HG
      by_cases k1 : s < m ∧ m < e
      · have k1a := k1.1
        have k1b := k1.2
        have HK : Hid (Calls Try.prog 71 #[.slice (some ⟨B, 0, none⟩) n n, .int .i64 s, .int .i64 m, .int .i64 e, clos P] wr fun e' w' => e' = .returned (.tuple #[]) ∧ Rotd B n P w0 w' f a m b s e) := rotate_at HT.out HS.out.2.1 hn hb k1
        clear k1
        go_wp2_with fail
        refine HK.out.mono ?_
        rintro e' wx ⟨rfl, hx⟩
        have HR : Hid (Rotd B n P w0 wx f a m b s e) := hx
        clear hx HK
        by_cases k2 : a < s ∧ s < mid
        · have k2a := k2.1
          have k2b := k2.2
          have HK : Hid (Calls Try.prog 70 #[.slice (some ⟨B, 0, none⟩) n n, .int .i64 a, .int .i64 s, .int .i64 mid, clos P] wx fun e' w' => e' = .returned (.tuple #[]) ∧ Half B n P w0 w' f a m b mid s e) := half_call HT.out HS.out.2.2.1 HS.out.2.2.2.1 HR.out HS.out.2.2.2.2 hb m2 k2
          clear k2 HR
          go_wp2_with fail
          refine HK.out.mono ?_
          rintro e' wz ⟨rfl, hz⟩
          have HH : Hid (Half B n P w0 wz f a m b mid s e) := hz
          clear hz HK
          by_cases k3 : mid < e ∧ e < b
          · have k3a := k3.1
            have k3b := k3.2
            have HK : Hid (Calls Try.prog 70 #[.slice (some ⟨B, 0, none⟩) n n, .int .i64 mid, .int .i64 e, .int .i64 b, clos P] wz fun e' w' => e' = .returned (.tuple #[]) ∧ Whole B n P w0 w' f a b) := whole_call HT.out HS.out.2.2.1 HS.out.2.2.2.1 HH.out HS.out.2.2.2.2 hb m1 (by omega) k3
            clear k3 HH HT
            go_wp2_with fail
            refine HK.out.mono ?_
            rintro e' wy ⟨rfl, hy⟩
            have HY : Hid (Whole B n P w0 wy f a b) := hy
            clear hy HK
            go_wp2
            go_returns
            exact ⟨rfl, HY.out⟩
          · have HY : Hid (Whole B n P w0 wz f a b) := whole_none HT.out HS.out.2.2.1 HS.out.2.2.2.1 HH.out (by omega) (by omega) k3
            clear HH HT
            by_cases k4 : mid < e
            · have k5 : ¬ e < b := fun h => k3 ⟨k4, h⟩
              clear k3
              go_wp2
              go_returns
              exact ⟨rfl, HY.out⟩
            · clear k3
              go_wp2
              go_returns
              exact ⟨rfl, HY.out⟩
        · have HH : Hid (Half B n P w0 wx f a m b mid s e) := half_none HT.out HS.out.2.2.1 HS.out.2.2.2.1 HR.out k2
          clear HR
          obtain ⟨wz, hwz⟩ : ∃ wz, wz = wx := ⟨_, rfl⟩
          subst hwz
          by_cases k6 : a < s
          · have k7 : ¬ s < mid := fun h => k2 ⟨k6, h⟩
            clear k2
            by_cases k3 : mid < e ∧ e < b
            · have k3a := k3.1
              have k3b := k3.2
              have HK : Hid (Calls Try.prog 70 #[.slice (some ⟨B, 0, none⟩) n n, .int .i64 mid, .int .i64 e, .int .i64 b, clos P] wz fun e' w' => e' = .returned (.tuple #[]) ∧ Whole B n P w0 w' f a b) := whole_call HT.out HS.out.2.2.1 HS.out.2.2.2.1 HH.out HS.out.2.2.2.2 hb m1 (by omega) k3
              clear k3 HH HT
              go_wp2_with fail
              refine HK.out.mono ?_
              rintro e' wy ⟨rfl, hy⟩
              have HY : Hid (Whole B n P w0 wy f a b) := hy
              clear hy HK
              go_wp2
              go_returns
              exact ⟨rfl, HY.out⟩
            · have HY : Hid (Whole B n P w0 wz f a b) := whole_none HT.out HS.out.2.2.1 HS.out.2.2.2.1 HH.out (by omega) (by omega) k3
              clear HH HT
              by_cases k4 : mid < e
              · have k5 : ¬ e < b := fun h => k3 ⟨k4, h⟩
                clear k3
                go_wp2
                go_returns
                exact ⟨rfl, HY.out⟩
              · clear k3
                go_wp2
                go_returns
                exact ⟨rfl, HY.out⟩
          · clear k2
            by_cases k3 : mid < e ∧ e < b
            · have k3a := k3.1
              have k3b := k3.2
              have HK : Hid (Calls Try.prog 70 #[.slice (some ⟨B, 0, none⟩) n n, .int .i64 mid, .int .i64 e, .int .i64 b, clos P] wz fun e' w' => e' = .returned (.tuple #[]) ∧ Whole B n P w0 w' f a b) := whole_call HT.out HS.out.2.2.1 HS.out.2.2.2.1 HH.out HS.out.2.2.2.2 hb m1 (by omega) k3
              clear k3 HH HT
              go_wp2_with fail
              refine HK.out.mono ?_
              rintro e' wy ⟨rfl, hy⟩
              have HY : Hid (Whole B n P w0 wy f a b) := hy
              clear hy HK
              go_wp2
              go_returns
              exact ⟨rfl, HY.out⟩
            · have HY : Hid (Whole B n P w0 wz f a b) := whole_none HT.out HS.out.2.2.1 HS.out.2.2.2.1 HH.out (by omega) (by omega) k3
              clear HH HT
              by_cases k4 : mid < e
              · have k5 : ¬ e < b := fun h => k3 ⟨k4, h⟩
                clear k3
                go_wp2
                go_returns
                exact ⟨rfl, HY.out⟩
              · clear k3
                go_wp2
                go_returns
                exact ⟨rfl, HY.out⟩
      · have HR : Hid (Rotd B n P w0 wr f a m b s e) := ⟨f, HT.out.st, rot_none k1 HT.out.l2 HT.out.l3, Pm.refl _ _ _⟩
        obtain ⟨wx, hwx⟩ : ∃ wx, wx = wr := ⟨_, rfl⟩
        subst hwx
        by_cases k8 : s < m
        · have k9 : ¬ m < e := fun h => k1 ⟨k8, h⟩
          clear k1
          by_cases k2 : a < s ∧ s < mid
          · have k2a := k2.1
            have k2b := k2.2
            have HK : Hid (Calls Try.prog 70 #[.slice (some ⟨B, 0, none⟩) n n, .int .i64 a, .int .i64 s, .int .i64 mid, clos P] wx fun e' w' => e' = .returned (.tuple #[]) ∧ Half B n P w0 w' f a m b mid s e) := half_call HT.out HS.out.2.2.1 HS.out.2.2.2.1 HR.out HS.out.2.2.2.2 hb m2 k2
            clear k2 HR
            go_wp2_with fail
            refine HK.out.mono ?_
            rintro e' wz ⟨rfl, hz⟩
            have HH : Hid (Half B n P w0 wz f a m b mid s e) := hz
            clear hz HK
            by_cases k3 : mid < e ∧ e < b
            · have k3a := k3.1
              have k3b := k3.2
              have HK : Hid (Calls Try.prog 70 #[.slice (some ⟨B, 0, none⟩) n n, .int .i64 mid, .int .i64 e, .int .i64 b, clos P] wz fun e' w' => e' = .returned (.tuple #[]) ∧ Whole B n P w0 w' f a b) := whole_call HT.out HS.out.2.2.1 HS.out.2.2.2.1 HH.out HS.out.2.2.2.2 hb m1 (by omega) k3
              clear k3 HH HT
              go_wp2_with fail
              refine HK.out.mono ?_
              rintro e' wy ⟨rfl, hy⟩
              have HY : Hid (Whole B n P w0 wy f a b) := hy
              clear hy HK
              go_wp2
              go_returns
              exact ⟨rfl, HY.out⟩
            · have HY : Hid (Whole B n P w0 wz f a b) := whole_none HT.out HS.out.2.2.1 HS.out.2.2.2.1 HH.out (by omega) (by omega) k3
              clear HH HT
              by_cases k4 : mid < e
              · have k5 : ¬ e < b := fun h => k3 ⟨k4, h⟩
                clear k3
                go_wp2
                go_returns
                exact ⟨rfl, HY.out⟩
              · clear k3
                go_wp2
                go_returns
                exact ⟨rfl, HY.out⟩
          · have HH : Hid (Half B n P w0 wx f a m b mid s e) := half_none HT.out HS.out.2.2.1 HS.out.2.2.2.1 HR.out k2
            clear HR
            obtain ⟨wz, hwz⟩ : ∃ wz, wz = wx := ⟨_, rfl⟩
            subst hwz
            by_cases k6 : a < s
            · have k7 : ¬ s < mid := fun h => k2 ⟨k6, h⟩
              clear k2
              by_cases k3 : mid < e ∧ e < b
              · have k3a := k3.1
                have k3b := k3.2
                have HK : Hid (Calls Try.prog 70 #[.slice (some ⟨B, 0, none⟩) n n, .int .i64 mid, .int .i64 e, .int .i64 b, clos P] wz fun e' w' => e' = .returned (.tuple #[]) ∧ Whole B n P w0 w' f a b) := whole_call HT.out HS.out.2.2.1 HS.out.2.2.2.1 HH.out HS.out.2.2.2.2 hb m1 (by omega) k3
                clear k3 HH HT
                go_wp2_with fail
                refine HK.out.mono ?_
                rintro e' wy ⟨rfl, hy⟩
                have HY : Hid (Whole B n P w0 wy f a b) := hy
                clear hy HK
                go_wp2
                go_returns
                exact ⟨rfl, HY.out⟩
              · have HY : Hid (Whole B n P w0 wz f a b) := whole_none HT.out HS.out.2.2.1 HS.out.2.2.2.1 HH.out (by omega) (by omega) k3
                clear HH HT
                by_cases k4 : mid < e
                · have k5 : ¬ e < b := fun h => k3 ⟨k4, h⟩
                  clear k3
                  go_wp2
                  go_returns
                  exact ⟨rfl, HY.out⟩
                · clear k3
                  go_wp2
                  go_returns
                  exact ⟨rfl, HY.out⟩
            · clear k2
              by_cases k3 : mid < e ∧ e < b
              · have k3a := k3.1
                have k3b := k3.2
                have HK : Hid (Calls Try.prog 70 #[.slice (some ⟨B, 0, none⟩) n n, .int .i64 mid, .int .i64 e, .int .i64 b, clos P] wz fun e' w' => e' = .returned (.tuple #[]) ∧ Whole B n P w0 w' f a b) := whole_call HT.out HS.out.2.2.1 HS.out.2.2.2.1 HH.out HS.out.2.2.2.2 hb m1 (by omega) k3
                clear k3 HH HT
                go_wp2_with fail
                refine HK.out.mono ?_
                rintro e' wy ⟨rfl, hy⟩
                have HY : Hid (Whole B n P w0 wy f a b) := hy
                clear hy HK
                go_wp2
                go_returns
                exact ⟨rfl, HY.out⟩
              · have HY : Hid (Whole B n P w0 wz f a b) := whole_none HT.out HS.out.2.2.1 HS.out.2.2.2.1 HH.out (by omega) (by omega) k3
                clear HH HT
                by_cases k4 : mid < e
                · have k5 : ¬ e < b := fun h => k3 ⟨k4, h⟩
                  clear k3
                  go_wp2
                  go_returns
                  exact ⟨rfl, HY.out⟩
                · clear k3
                  go_wp2
                  go_returns
                  exact ⟨rfl, HY.out⟩
        · clear k1
          by_cases k2 : a < s ∧ s < mid
          · have k2a := k2.1
            have k2b := k2.2
            have HK : Hid (Calls Try.prog 70 #[.slice (some ⟨B, 0, none⟩) n n, .int .i64 a, .int .i64 s, .int .i64 mid, clos P] wx fun e' w' => e' = .returned (.tuple #[]) ∧ Half B n P w0 w' f a m b mid s e) := half_call HT.out HS.out.2.2.1 HS.out.2.2.2.1 HR.out HS.out.2.2.2.2 hb m2 k2
            clear k2 HR
            go_wp2_with fail
            refine HK.out.mono ?_
            rintro e' wz ⟨rfl, hz⟩
            have HH : Hid (Half B n P w0 wz f a m b mid s e) := hz
            clear hz HK
            by_cases k3 : mid < e ∧ e < b
            · have k3a := k3.1
              have k3b := k3.2
              have HK : Hid (Calls Try.prog 70 #[.slice (some ⟨B, 0, none⟩) n n, .int .i64 mid, .int .i64 e, .int .i64 b, clos P] wz fun e' w' => e' = .returned (.tuple #[]) ∧ Whole B n P w0 w' f a b) := whole_call HT.out HS.out.2.2.1 HS.out.2.2.2.1 HH.out HS.out.2.2.2.2 hb m1 (by omega) k3
              clear k3 HH HT
              go_wp2_with fail
              refine HK.out.mono ?_
              rintro e' wy ⟨rfl, hy⟩
              have HY : Hid (Whole B n P w0 wy f a b) := hy
              clear hy HK
              go_wp2
              go_returns
              exact ⟨rfl, HY.out⟩
            · have HY : Hid (Whole B n P w0 wz f a b) := whole_none HT.out HS.out.2.2.1 HS.out.2.2.2.1 HH.out (by omega) (by omega) k3
              clear HH HT
              by_cases k4 : mid < e
              · have k5 : ¬ e < b := fun h => k3 ⟨k4, h⟩
                clear k3
                go_wp2
                go_returns
                exact ⟨rfl, HY.out⟩
              · clear k3
                go_wp2
                go_returns
                exact ⟨rfl, HY.out⟩
          · have HH : Hid (Half B n P w0 wx f a m b mid s e) := half_none HT.out HS.out.2.2.1 HS.out.2.2.2.1 HR.out k2
            clear HR
            obtain ⟨wz, hwz⟩ : ∃ wz, wz = wx := ⟨_, rfl⟩
            subst hwz
            by_cases k6 : a < s
            · have k7 : ¬ s < mid := fun h => k2 ⟨k6, h⟩
              clear k2
              by_cases k3 : mid < e ∧ e < b
              · have k3a := k3.1
                have k3b := k3.2
                have HK : Hid (Calls Try.prog 70 #[.slice (some ⟨B, 0, none⟩) n n, .int .i64 mid, .int .i64 e, .int .i64 b, clos P] wz fun e' w' => e' = .returned (.tuple #[]) ∧ Whole B n P w0 w' f a b) := whole_call HT.out HS.out.2.2.1 HS.out.2.2.2.1 HH.out HS.out.2.2.2.2 hb m1 (by omega) k3
                clear k3 HH HT
                go_wp2_with fail
                refine HK.out.mono ?_
                rintro e' wy ⟨rfl, hy⟩
                have HY : Hid (Whole B n P w0 wy f a b) := hy
                clear hy HK
                go_wp2
                go_returns
                exact ⟨rfl, HY.out⟩
              · have HY : Hid (Whole B n P w0 wz f a b) := whole_none HT.out HS.out.2.2.1 HS.out.2.2.2.1 HH.out (by omega) (by omega) k3
                clear HH HT
                by_cases k4 : mid < e
                · have k5 : ¬ e < b := fun h => k3 ⟨k4, h⟩
                  clear k3
                  go_wp2
                  go_returns
                  exact ⟨rfl, HY.out⟩
                · clear k3
                  go_wp2
                  go_returns
                  exact ⟨rfl, HY.out⟩
            · clear k2
              by_cases k3 : mid < e ∧ e < b
              · have k3a := k3.1
                have k3b := k3.2
                have HK : Hid (Calls Try.prog 70 #[.slice (some ⟨B, 0, none⟩) n n, .int .i64 mid, .int .i64 e, .int .i64 b, clos P] wz fun e' w' => e' = .returned (.tuple #[]) ∧ Whole B n P w0 w' f a b) := whole_call HT.out HS.out.2.2.1 HS.out.2.2.2.1 HH.out HS.out.2.2.2.2 hb m1 (by omega) k3
                clear k3 HH HT
                go_wp2_with fail
                refine HK.out.mono ?_
                rintro e' wy ⟨rfl, hy⟩
                have HY : Hid (Whole B n P w0 wy f a b) := hy
                clear hy HK
                go_wp2
                go_returns
                exact ⟨rfl, HY.out⟩
              · have HY : Hid (Whole B n P w0 wz f a b) := whole_none HT.out HS.out.2.2.1 HS.out.2.2.2.1 HH.out (by omega) (by omega) k3
                clear HH HT
                by_cases k4 : mid < e
                · have k5 : ¬ e < b := fun h => k3 ⟨k4, h⟩
                  clear k3
                  go_wp2
                  go_returns
                  exact ⟨rfl, HY.out⟩
                · clear k3
                  go_wp2
                  go_returns
                  exact ⟨rfl, HY.out⟩
end Go.Proofs.Ytbhpdlhmkmkbhaa

