/- RowsFault of both packages: contracts. -/
import Derived.Test.YtboppklcmdfphaaToss
namespace Go.Proofs.Ytboppklcmdfphaa
open Go.RowKit
/-- More rows than 24, or a row with more numbers. -/
def Many (n : Nat) (L : Nat → Nat) : Prop := 24 < n ∨ ∃ i, i < n ∧ 24 < L i
/-- Rows of wrong lengths, or none. -/
def Odd (n : Nat) (L : Nat → Nat) : Prop := n = 0 ∨ ∃ i, i < n ∧ L i ≠ n
def manyB (n : Nat) (L : Nat → Nat) : Bool := decide (24 < n) || (List.range n).any fun i => decide (24 < L i)
def oddB (n : Nat) (L : Nat → Nat) : Bool := decide (n = 0) || (List.range n).any fun i => decide (L i ≠ n)
theorem manyB_iff (n : Nat) (L : Nat → Nat) : manyB n L = true ↔ Many n L := by simp [manyB, Many]
theorem oddB_iff (n : Nat) (L : Nat → Nat) : oddB n L = true ↔ Odd n L := by simp [oddB, Odd]
def faultOf (n : Nat) (L : Nat → Nat) : Int := if manyB n L = true then 2 else if oddB n L = true then 1 else 0
theorem fault2 {n : Nat} {L : Nat → Nat} (h : Many n L) : faultOf n L = 2 := by unfold faultOf; rw [if_pos ((manyB_iff n L).2 h)]
theorem fault1 {n : Nat} {L : Nat → Nat} (h : ¬Many n L) (h1 : Odd n L) : faultOf n L = 1 := by unfold faultOf; rw [if_neg fun e => h ((manyB_iff n L).1 e), if_pos ((oddB_iff n L).2 h1)]
theorem fault0 {n : Nat} {L : Nat → Nat} (h : ¬Many n L) (h1 : ¬Odd n L) : faultOf n L = 0 := by unfold faultOf; rw [if_neg fun e => h ((manyB_iff n L).1 e), if_neg fun e => h1 ((oddB_iff n L).1 e)]
theorem fault_right {n : Nat} {L : Nat → Nat} (h : faultOf n L = 0) : 0 < n ∧ n ≤ 24 ∧ ∀ i, i < n → L i = n := by
  unfold faultOf at h
  split at h
  · omega
  · split at h
    · omega
    · rename_i h1 h2
      rw [manyB_iff] at h1
      rw [oddB_iff] at h2
      refine ⟨?_, ?_, fun i hi => ?_⟩
      · exact Nat.pos_of_ne_zero fun e => h2 (Or.inl e)
      · exact Nat.le_of_not_lt fun e => h1 (Or.inl e)
      · exact Classical.byContradiction fun e => h2 (Or.inr ⟨i, hi, e⟩)
theorem fault_cases (n : Nat) (L : Nat → Nat) : faultOf n L = 0 ∨ faultOf n L = 1 ∨ faultOf n L = 2 := by
  unfold faultOf
  split
  · exact Or.inr (Or.inr rfl)
  · split
    · exact Or.inr (Or.inl rfl)
    · exact Or.inl rfl
theorem not_many {n : Nat} {L : Nat → Nat} (h : n ≤ 24) (h1 : ∀ i, i < n → L i ≤ 24) : ¬Many n L := by
  rintro (h2 | ⟨i, hi, h3⟩)
  · omega
  · have := h1 i hi; omega
theorem not_odd {n : Nat} {L : Nat → Nat} (h : 0 < n) (h1 : ∀ i, i < n → L i = n) : ¬Odd n L := by
  rintro (h2 | ⟨i, hi, h3⟩)
  · omega
  · exact h3 (h1 i hi)
theorem ne_bool {a b : Nat} (h : a ≠ b) : (((a : Nat) : Int) != ((b : Nat) : Int)) = true := by rw [bne_iff_ne]; omega
theorem eq_bool {a b : Nat} (h : a = b) : (((a : Nat) : Int) != ((b : Nat) : Int)) = false := by subst h; simp
theorem all_succ {p : Nat → Prop} {k : Nat} (h : ∀ j, j < k → p j) (hk : p k) : ∀ j, j < k + 1 → p j := fun j hj => by
  rcases Nat.lt_succ_iff_lt_or_eq.1 hj with h1 | rfl
  · exact h j h1
  · exact hk
/-- The rows' slices, whatever they hold. -/
def Tops (w : World) (b off n : Nat) (L : Nat → Nat) : Prop := ∀ i, i < n → ∃ ao c, w.cell? ⟨b, off + i, none⟩ = some (.slice ao (L i) c)

set_option maxHeartbeats 1600000 in
theorem sFault_any (b off n cap : Nat) (L : Nat → Nat) (w : World) (hn : n ≤ 9223372036854775807) (hL : ∀ i, i < n → L i ≤ 9223372036854775807) (hc : Tops w b off n L) :
    Calls Try.prog 57 #[.slice (some ⟨b, off, none⟩) n cap] w fun e w' => e = .returned (.int .i64 (faultOf n L)) ∧ w = w' := by
  by_cases h24 : 24 < n
  · rw [fault2 (Or.inl h24)]
    go_enter Try.func57, Try.ntmps57
    go_wp2
    go_ret
    exact ⟨rfl, rfl⟩
  have hn24 : n ≤ 24 := by omega
  clear h24
  have HC : Hid (Tops w b off n L) := hc
  have HL : Hid (∀ i, i < n → L i ≤ 9223372036854775807) := hL
  clear hc hL
  go_enter Try.func57, Try.ntmps57
  go_wp2_with fail
  go_loopw [4] (fun i wr => wr = w ∧ ∃ k : Nat, k ≤ n ∧ i = .int .i64 k ∧ Hid (∀ j, j < k → L j ≤ 24)) (fun i _ => n - (intOf i).toNat)
  case atStart => exact ⟨rfl, 0, Nat.zero_le _, rfl, fun j hj => absurd hj (Nat.not_lt_zero _)⟩
  case round =>
    obtain ⟨rfl, k, hk, rfl, hs⟩ := hrel
    by_cases hkn : k < n
    · obtain ⟨ao, c, g1⟩ := HC.out k hkn
      have gL := HL.out k hkn
      by_cases hb : 24 < L k
      · go_wp2
        go_ret
        exact ⟨ret_int (fault2 (Or.inr ⟨k, hkn, hb⟩)).symm, rfl⟩
      · go_wp2
        go_roundw
        case rel => exact ⟨by trivial, k + 1, by omega, by simp, all_succ hs.out (by omega)⟩
        case measure => simp [intOf]; omega
    · obtain rfl : k = n := by omega
      have HM : Hid (¬Many k L) := not_many hn24 hs.out
      by_cases hz : k = 0
      · subst hz
        go_wp2
        go_ret
        exact ⟨ret_int (fault1 HM.out (Or.inl rfl)).symm, rfl⟩
      have hz0 : ((k : Int) == 0) = false := by rw [beq_eq_false_iff_ne]; omega
      go_wp2_with fail
      go_loopw [5] (fun i wx => wx = wr ∧ ∃ q : Nat, q ≤ k ∧ i = .int .i64 q ∧ Hid (∀ j, j < q → L j = k)) (fun i _ => k - (intOf i).toNat)
      case atStart => exact ⟨rfl, 0, Nat.zero_le _, rfl, fun j hj => absurd hj (Nat.not_lt_zero _)⟩
      case round =>
        obtain ⟨rfl, q, hq, rfl, hs2⟩ := hrel
        by_cases hqn : q < k
        · obtain ⟨ao, c, g1⟩ := HC.out q hqn
          have gL := HL.out q hqn
          by_cases hb : L q = k
          · have hb1 := eq_bool hb
            have HB : Hid (L q = k) := hb
            clear hb
            go_wp2
            go_roundw
            case rel => exact ⟨by trivial, q + 1, by omega, by simp, all_succ hs2.out HB.out⟩
            case measure => simp [intOf]; omega
          · have hb1 := ne_bool hb
            have HB : Hid (L q ≠ k) := hb
            clear hb
            go_wp2
            go_ret
            exact ⟨ret_int (fault1 HM.out (Or.inr ⟨q, hqn, HB.out⟩)).symm, rfl⟩
        · obtain rfl : q = k := by omega
          go_wp2
          go_ret
          exact ⟨ret_int (fault0 HM.out (not_odd (by omega) hs2.out)).symm, rfl⟩
/-- More than K rows, or numbers in a row. -/
def ManyK (K : Int) (n : Nat) (L : Nat → Nat) : Prop := K < (n : Int) ∨ ∃ i, i < n ∧ K < (L i : Int)
theorem not_manyK {K : Int} {n : Nat} {L : Nat → Nat} (h : (n : Int) ≤ K) (h1 : ∀ i, i < n → (L i : Int) ≤ K) : ¬ManyK K n L := by
  rintro (h2 | ⟨i, hi, h3⟩)
  · omega
  · have := h1 i hi; omega
theorem manyK_24 {n : Nat} {L : Nat → Nat} : ManyK 24 n L ↔ Many n L := by
  constructor
  · rintro (h | ⟨i, hi, h⟩)
    · exact Or.inl (by omega)
    · exact Or.inr ⟨i, hi, by omega⟩
  · rintro (h | ⟨i, hi, h⟩)
    · exact Or.inl (by omega)
    · exact Or.inr ⟨i, hi, by omega⟩
set_option maxHeartbeats 1600000 in
theorem iMany_any (K : Int) (b off n cap : Nat) (L : Nat → Nat) (w : World) (hK : 0 ≤ K) (hK2 : K ≤ 1000) (hn : n ≤ 9223372036854775807) (hL : ∀ i, i < n → L i ≤ 9223372036854775807) (hc : Tops w b off n L) :
    Calls Try.prog 92 #[.slice (some ⟨b, off, none⟩) n cap, .int .i64 K] w fun e w' => ∃ r, e = .returned (.bool r) ∧ (r = true → ManyK K n L) ∧ (r = false → ¬ManyK K n L) ∧ w = w' := by
  by_cases h24 : K < (n : Int)
  · go_enter Try.func92, Try.ntmps92
    go_wp2
    go_ret
    exact ⟨true, rfl, fun _ => Or.inl h24, fun h => (by cases h), rfl⟩
  have hn24 : (n : Int) ≤ K := by omega
  clear h24
  have HC : Hid (Tops w b off n L) := hc
  have HL : Hid (∀ i, i < n → L i ≤ 9223372036854775807) := hL
  clear hc hL
  go_enter Try.func92, Try.ntmps92
  go_wp2_with fail
  go_loopw [12] (fun i wr => wr = w ∧ ∃ k : Nat, k ≤ n ∧ i = .int .i64 k ∧ Hid (∀ j, j < k → (L j : Int) ≤ K)) (fun i _ => n - (intOf i).toNat)
  case atStart => exact ⟨rfl, 0, Nat.zero_le _, rfl, fun j hj => absurd hj (Nat.not_lt_zero _)⟩
  case round =>
    obtain ⟨rfl, k, hk, rfl, hs⟩ := hrel
    by_cases hkn : k < n
    · obtain ⟨ao, c, g1⟩ := HC.out k hkn
      have gL := HL.out k hkn
      by_cases hb : K < (L k : Int)
      · go_wp2
        go_ret
        exact ⟨true, rfl, fun _ => Or.inr ⟨k, hkn, hb⟩, fun h => (by cases h), rfl⟩
      · go_wp2
        go_roundw
        case rel => exact ⟨by trivial, k + 1, by omega, by simp, all_succ hs.out (by omega)⟩
        case measure => simp [intOf]; omega
    · obtain rfl : k = n := by omega
      have HM : Hid (¬ManyK K k L) := not_manyK hn24 hs.out
      go_wp2
      go_ret
      exact ⟨false, rfl, fun h => (by cases h), fun _ => HM.out, rfl⟩
set_option maxHeartbeats 1600000 in
theorem iFault_any (b off n cap : Nat) (L : Nat → Nat) (w : World) (hn : n ≤ 9223372036854775807) (hL : ∀ i, i < n → L i ≤ 9223372036854775807) (hc : Tops w b off n L) :
    Calls Try.prog 60 #[.slice (some ⟨b, off, none⟩) n cap] w fun e w' => e = .returned (.int .i64 (faultOf n L)) ∧ w = w' := by
  have HC : Hid (Tops w b off n L) := hc
  have HL : Hid (∀ i, i < n → L i ≤ 9223372036854775807) := hL
  clear hc hL
  go_enter Try.func60, Try.ntmps60
  go_wp2_with fail
  refine (iMany_any _ _ _ _ _ L _ (by omega) (by omega) hn HL.out HC.out).mono ?_
  rintro e w1 ⟨r, rfl, hm1, hm0, rfl⟩
  have H1 : Hid ((r = true → Many n L) ∧ (r = false → ¬Many n L)) := ⟨fun h => manyK_24.1 (hm1 h), fun h h2 => hm0 h (manyK_24.2 h2)⟩
  clear hm1 hm0
  cases r
  · have HM : Hid (¬Many n L) := H1.out.2 (by trivial)
    clear H1
    by_cases hz : n = 0
    · subst hz
      go_wp2
      go_ret
      exact ⟨ret_int (fault1 HM.out (Or.inl rfl)).symm, rfl⟩
    have hz0 : ((n : Int) == 0) = false := by rw [beq_eq_false_iff_ne]; omega
    go_wp2_with fail
    go_loopw [11] (fun i wx => wx = w ∧ ∃ q : Nat, q ≤ n ∧ i = .int .i64 q ∧ Hid (∀ j, j < q → L j = n)) (fun i _ => n - (intOf i).toNat)
    case atStart => exact ⟨rfl, 0, Nat.zero_le _, rfl, fun j hj => absurd hj (Nat.not_lt_zero _)⟩
    case round =>
      obtain ⟨rfl, q, hq, rfl, hs2⟩ := hrel
      by_cases hqn : q < n
      · obtain ⟨ao, c, g1⟩ := HC.out q hqn
        have gL := HL.out q hqn
        by_cases hb : L q = n
        · have hb1 := eq_bool hb
          have HB : Hid (L q = n) := hb
          clear hb
          go_wp2
          go_roundw
          case rel => exact ⟨by trivial, q + 1, by omega, by simp, all_succ hs2.out HB.out⟩
          case measure => simp [intOf]; omega
        · have hb1 := ne_bool hb
          have HB : Hid (L q ≠ n) := hb
          clear hb
          go_wp2
          go_ret
          exact ⟨ret_int (fault1 HM.out (Or.inr ⟨q, hqn, HB.out⟩)).symm, rfl⟩
      · obtain rfl : q = n := by omega
        go_wp2
        go_ret
        exact ⟨ret_int (fault0 HM.out (not_odd (by omega) hs2.out)).symm, rfl⟩
  · go_wp2
    go_ret
    exact ⟨ret_int (fault2 (H1.out.1 (by trivial))).symm, rfl⟩
theorem RdMat.tops {w : World} {b off n cap : Nat} {L : Nat → Nat} {F : Rm.Mx} (h : RdMat w (.slice (some ⟨b, off, none⟩) n cap) n L F) : Tops w b off n L := by
  intro i hi
  rcases h with ⟨ao, c, _, h0⟩ | ⟨b', off', cap', vs, h, hc⟩
  · omega
  · simp only [Value.slice.injEq, Option.some.injEq, Addr.mk.injEq] at h
    obtain ⟨⟨rfl, rfl, _⟩, _, rfl⟩ := h
    obtain ⟨h1, h2⟩ := hc i hi
    rcases h2 with ⟨ao, c, e, h3⟩ | ⟨b, o, c, e, _⟩
    · exact ⟨ao, c, by rw [h1, e, h3]⟩
    · exact ⟨_, c, by rw [h1, e]⟩
theorem Mat.tops {lo hi : Nat} {w : World} {m : Lie} {n : Nat} {L : Nat → Nat} {F : Rm.Mx} (h : Mat lo hi w m n L F) : Tops w m.b 0 n L := RdMat.tops (cap := m.cap) h.rd
end Go.Proofs.Ytboppklcmdfphaa
