/- The laws' own copies of matrices, and the sizes that they ask first: contracts. -/
import Derived.Test.YtelejihgechmgaaTos
namespace Go.Proofs.Ytelejihgechmgaa
open Go.RowKit
set_option maxHeartbeats 800000 in
theorem toSS_some (b off n cap : Nat) (vs : Nat → Value) (L : Nat → Nat) (F : Rm.Mx) (w : World) (hn : n ≤ 1000000000000) (hL : ∀ i, i < n → L i ≤ 1000000000000)
    (hc : ∀ i, i < n → w.cell? ⟨b, off + i, none⟩ = some (vs i) ∧ RdRow w (vs i) (L i) (F i)) :
    Calls Try.prog 82 #[.slice (some ⟨b, off, none⟩) n cap] w fun e w' => e = .returned ((newLie w.heap.size n L).val n) ∧
      Mat w.heap.size w'.heap.size w' (newLie w.heap.size n L) n L F ∧ Below w.heap.size w w' := by
  have hmk := run_make_row' (P := Try.prog) 53 24 (.slice none 0 0) 24 Try.underlying53 info38 rfl .i64 .i64 n (by omega) (by omega)
  go_enter Try.func82, Try.ntmps82
  go_wp2_with fail
  clear hmk
  go_loopw [4] (fun i wr => ∃ k : Nat, k ≤ n ∧ i = .int .i64 k ∧ Laying w.heap.size wr n k L F ∧ Below w.heap.size w wr) (fun i _ => n - (intOf i).toNat)
  case atStart => exact ⟨0, Nat.zero_le _, rfl, laying_start w n L F, (Below.refl _ _).alloc (Nat.le_refl _) _⟩
  case round =>
    obtain ⟨k, hk, rfl, hs, hb⟩ := hrel
    by_cases hkn : k < n
    · have g1 : wr.cell? ⟨b, off + k, none⟩ = some (vs k) := (hb.cell (World.block_lt_of_cell? _ _ (hc k hkn).1)).trans (hc k hkn).1
      have gr : RdRow wr (vs k) (L k) (F k) := (hc k hkn).2.later hb
      have hLk := hL k hkn
      have HS : Hid (Laying w.heap.size wr n k L F ∧ Below w.heap.size w wr) := ⟨hs, hb⟩
      clear hs hb hc hL
      go_wp2_with fail
      refine (toS_any gr hLk).mono ?_
      rintro e w1 ⟨rfl, hr, hb1, hz1⟩
      have hT := HS.out.1.top
      have hz0 := HS.out.1.size
      have hT1 : Seg w1 w.heap.size 24 0 n (fun i => if i < k then (newLie w.heap.size n L).row L i else .slice none 0 0) := hT.of_block (hb1.block _ (by omega))
      have g2 : w1.cell? ⟨w.heap.size, k, none⟩ = some (.slice none 0 0) := by simpa using hT1.cell hkn
      have g3 : w1.frozen? ⟨w.heap.size, k, none⟩ = false := hT1.frozen k
      have HR : Hid (Laying w.heap.size (w1.setCell ⟨w.heap.size, k, none⟩ (.slice (some ⟨w.heap.size + 1 + k, 0, none⟩) (L k) (L k))) n (k + 1) L F ∧ Below w.heap.size w (w1.setCell ⟨w.heap.size, k, none⟩ (.slice (some ⟨w.heap.size + 1 + k, 0, none⟩) (L k) (L k)))) :=
        ⟨HS.out.1.step hkn hb1 hz1 hr, (HS.out.2.trans (hb1.mono (by omega))).setCell (Nat.le_refl _) _⟩
      rw [hz0]
      clear hT hT1 hr hb1 hz1 hz0 HS gr g1 hLk
      go_wp2
      go_roundw
      case rel => exact ⟨k + 1, by omega, by simp, HR.out.1, HR.out.2⟩
      case measure => simp [intOf]; omega
    · obtain rfl : k = n := by omega
      clear hc hL
      go_wp2
      go_ret
      exact ⟨rfl, hs.mat, hb⟩
theorem toSS_none (ao : Option Addr) (cap : Nat) (L : Nat → Nat) (F : Rm.Mx) (w : World) :
    Calls Try.prog 82 #[.slice ao 0 cap] w fun e w' => e = .returned ((newLie w.heap.size 0 L).val 0) ∧
      Mat w.heap.size w'.heap.size w' (newLie w.heap.size 0 L) 0 L F ∧ Below w.heap.size w w' := by
  have hmk := run_make_row' (P := Try.prog) 53 24 (.slice none 0 0) 24 Try.underlying53 info38 rfl .i64 .i64 0 (by omega) (by omega)
  rw [show ((0 : Nat) : Int) = 0 from rfl] at hmk
  have hS := (laying_start w 0 L F).mat
  have hB : Below w.heap.size w (w.alloc (.cells (madeCells #[.slice none 0 0] 0) 24)) := (Below.refl _ _).alloc (Nat.le_refl _) _
  go_enter Try.func82, Try.ntmps82
  go_wp2_with fail
  refine wp_loop_rounds 1 ?_
  rw [rounds_succ]
  go_wp2
  go_ret
  exact ⟨rfl, hS, hB⟩
theorem toSS_any {w : World} {v : Value} {n : Nat} {L : Nat → Nat} {F : Rm.Mx} (h : RdMat w v n L F) (hn : n ≤ 1000000000000) (hL : ∀ i, i < n → L i ≤ 1000000000000) :
    Calls Try.prog 82 #[v] w fun e w' => e = .returned (.slice (some ⟨w.heap.size, 0, none⟩) n n) ∧
      Mat w.heap.size w'.heap.size w' (newLie w.heap.size n L) n L F ∧ Below w.heap.size w w' := by
  rcases h with ⟨ao, cap, rfl, rfl⟩ | ⟨b, off, cap, vs, rfl, hc⟩
  · exact toSS_none ao cap L F w
  · exact toSS_some b off n cap vs L F w hn hL hc

/-- So many numbers are in the first k rows. -/
def Sm (L : Nat → Nat) : Nat → Nat | 0 => 0 | k + 1 => Sm L k + L k
theorem Sm_mono (L : Nat → Nat) (k : Nat) : ∀ m, Sm L k ≤ Sm L (k + m)
  | 0 => Nat.le_refl _
  | m + 1 => by have := Sm_mono L k m; rw [← Nat.add_assoc, Sm]; omega
theorem Sm_le {L : Nat → Nat} {k n : Nat} (h : k ≤ n) : Sm L k ≤ Sm L n := by
  have := Sm_mono L k (n - k)
  rwa [Nat.add_sub_cancel' h] at this
theorem le_Sm {L : Nat → Nat} {i n : Nat} (h : i < n) : L i ≤ Sm L n := by
  have := Sm_le (L := L) (show i + 1 ≤ n by omega)
  rw [Sm] at this
  omega
theorem szS_any (ao : Option Addr) (n cap : Nat) (left : Int) (w : World) (h0 : 0 ≤ left) (h1 : left ≤ 1048576) (hn : n ≤ 9223372036854775807) :
    Calls Try.prog 81 #[.slice ao n cap, .int .i64 left] w fun e w' => e = .returned (.int .i64 (if left - n < 0 then -1 else left - n)) ∧ w = w' := by
  by_cases h : left - n < 0
  · rw [if_pos h]
    go_enter Try.func81, Try.ntmps81
    go_wp2
    go_ret
    exact ⟨rfl, rfl⟩
  · rw [if_neg h]
    go_enter Try.func81, Try.ntmps81
    go_wp2
    go_ret
    exact ⟨rfl, rfl⟩
theorem szSS_short (ao : Option Addr) (n cap : Nat) (left : Int) (w : World) (h0 : 0 ≤ left) (h1 : left ≤ 1048576) (hn : n ≤ 9223372036854775807) (h : left - n < 0) :
    Calls Try.prog 80 #[.slice ao n cap, .int .i64 left] w fun e w' => e = .returned (.int .i64 (-1)) ∧ w = w' := by
  go_enter Try.func80, Try.ntmps80
  go_wp2
  go_ret
  exact ⟨rfl, rfl⟩
/-- What a look at the sizes tells: too many, or how many are left. -/
def Told (n : Nat) (L : Nat → Nat) (left r : Int) : Prop := r = -1 ∨ (0 ≤ r ∧ r + n + Sm L n = left)
set_option maxHeartbeats 800000 in
theorem szSS_some (b off n cap : Nat) (vs : Nat → Value) (L : Nat → Nat) (left : Int) (w : World) (h0 : 0 ≤ left) (h1 : left ≤ 1048576) (h : 0 ≤ left - n)
    (hc : ∀ i, i < n → w.cell? ⟨b, off + i, none⟩ = some (vs i) ∧ L i ≤ 9223372036854775807 ∧ ∃ ao c, vs i = .slice ao (L i) c) :
    Calls Try.prog 80 #[.slice (some ⟨b, off, none⟩) n cap, .int .i64 left] w fun e w' => ∃ r, e = .returned (.int .i64 r) ∧ w = w' ∧ Told n L left r := by
  go_enter Try.func80, Try.ntmps80
  go_wp2_with fail
  go_loopw [1, 5] (fun l i wr => wr = w ∧ ∃ (k : Nat) (r : Int), k ≤ n ∧ i = .int .i64 k ∧ l = .int .i64 r ∧ 0 ≤ r ∧ r + n + Sm L k = left) (fun _ i _ => n - (intOf i).toNat)
  case atStart => exact ⟨rfl, 0, left - n, Nat.zero_le _, rfl, rfl, h, by simp [Sm]⟩
  case round =>
    obtain ⟨rfl, k, r, hk, rfl, rfl, hr0, hr⟩ := hrel
    by_cases hkn : k < n
    · obtain ⟨g1, gL, ao, c, gv⟩ := hc k hkn
      rw [gv] at g1
      clear hc gv
      by_cases hs : r - (L k : Int) < 0
      · go_wp2_with fail
        refine (szS_any _ _ _ _ _ (by omega) (by omega) gL).mono ?_
        rintro e w1 ⟨rfl, rfl⟩
        rw [if_pos hs]
        go_wp2
        go_ret
        exact ⟨-1, rfl, rfl, Or.inl rfl⟩
      · go_wp2_with fail
        refine (szS_any _ _ _ _ _ (by omega) (by omega) gL).mono ?_
        rintro e w1 ⟨rfl, rfl⟩
        rw [if_neg (by omega)]
        go_wp2
        go_roundw
        case rel => exact ⟨by trivial, k + 1, r - L k, by omega, by simp, rfl, by omega, by simp only [Sm]; omega⟩
        case measure => simp [intOf]; omega
    · obtain rfl : k = n := by omega
      clear hc
      go_wp2
      go_ret
      exact ⟨r, rfl, rfl, Or.inr ⟨hr0, hr⟩⟩
theorem szSS_none (ao : Option Addr) (cap : Nat) (left : Int) (L : Nat → Nat) (w : World) (h0 : 0 ≤ left) (h1 : left ≤ 1048576) :
    Calls Try.prog 80 #[.slice ao 0 cap, .int .i64 left] w fun e w' => ∃ r, e = .returned (.int .i64 r) ∧ w = w' ∧ Told 0 L left r := by
  go_enter Try.func80, Try.ntmps80
  go_wp2_with fail
  refine wp_loop_rounds 1 ?_
  rw [rounds_succ]
  go_wp2
  go_ret
  exact ⟨left, rfl, rfl, Or.inr ⟨h0, by simp [Sm]⟩⟩
theorem szSS_any {w : World} {v : Value} {n : Nat} {L : Nat → Nat} {F : Rm.Mx} (h : RdMat w v n L F) (left : Int) (h0 : 0 ≤ left) (h1 : left ≤ 1048576) (hn : n ≤ 9223372036854775807) (hL : ∀ i, i < n → L i ≤ 9223372036854775807) :
    Calls Try.prog 80 #[v, .int .i64 left] w fun e w' => ∃ r, e = .returned (.int .i64 r) ∧ w = w' ∧ Told n L left r := by
  rcases h with ⟨ao, cap, rfl, rfl⟩ | ⟨b, off, cap, vs, rfl, hc⟩
  · exact szSS_none ao cap left L w h0 h1
  · by_cases hl : left - n < 0
    · exact (szSS_short _ _ _ _ _ h0 h1 hn hl).mono fun e w' ⟨he, hw⟩ => ⟨-1, he, hw, Or.inl rfl⟩
    · refine szSS_some b off n cap vs L left w h0 h1 (by omega) fun i hi => ⟨(hc i hi).1, hL i hi, ?_⟩
      rcases (hc i hi).2 with ⟨ao, c, h, h2⟩ | ⟨b, o, c, h, _⟩
      · exact ⟨ao, c, by rw [h, h2]⟩
      · exact ⟨_, c, h⟩
end Go.Proofs.Ytelejihgechmgaa
