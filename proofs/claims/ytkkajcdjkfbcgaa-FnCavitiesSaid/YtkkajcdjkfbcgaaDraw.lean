/- The drawing of floats out of bytes: whatever the bytes are, some float is drawn and only new memory is touched: contracts. -/
import Derived.Test.YtkkajcdjkfbcgaaJn
import Derived.Test.YtkkajcdjkfbcgaaPu
import Derived.Test.YtkkajcdjkfbcgaaLow
import Derived.Handy
namespace Go.Proofs.Ytkkajcdjkfbcgaa
open Go.RowKit
set_option linter.unusedVariables false
/-- v is a slice of n bytes g. -/
def RdB (w : World) (v : Value) (n : Nat) (g : Nat → Int) : Prop :=
  (∃ ao cap, v = .slice ao 0 cap ∧ n = 0) ∨ ∃ b off cap, v = .slice (some ⟨b, off, none⟩) n cap ∧ ∀ i, i < n → w.cell? ⟨b, off + i, none⟩ = some (.int .u8 (g i))
/-- A source at the block p: its bytes and how far it has come. -/
structure Src (w0 w : World) (v : Value) (a : Int) (p : Nat) : Prop where
  below : Below w0.heap.size w0 w
  new : w0.heap.size ≤ p
  code : w.cell? ⟨p, 0, none⟩ = some v
  here : w.cell? ⟨p, 1, none⟩ = some (.int .i64 a)
  free : w.frozen? ⟨p, 1, none⟩ = false
theorem source_any (ao : Option Addr) (n cap : Nat) (w : World) : Calls Try.prog 53 #[.slice ao n cap] w fun e w' => e = .returned (.pointer (some ⟨w.heap.size, 0, none⟩)) ∧ w' = w.alloc (.cells #[.slice ao n cap, .int .i64 0] 132) := by
  go_enter Try.func53, Try.ntmps53
  go_wp2
  go_ret
  exact ⟨rfl, rfl⟩
theorem src_new (w : World) (v : Value) : Src w (w.alloc (.cells #[v, .int .i64 0] 132)) v 0 w.heap.size :=
  ⟨(Below.refl _ _).alloc (Nat.le_refl _) _, Nat.le_refl _, by go_simp, by go_simp, by go_simp⟩
theorem tmod_fits {x N : Int} (h0 : 0 ≤ x) (h1 : 1 ≤ N) : 0 ≤ x.tmod N ∧ x.tmod N < N := by
  rw [Int.tmod_eq_emod_of_nonneg h0]
  exact ⟨Int.emod_nonneg _ (by omega), Int.emod_lt_of_pos _ (by omega)⟩
set_option maxHeartbeats 1600000 in
theorem next_none (ao : Option Addr) (cap p : Nat) (a N : Int) (w : World) (ha : 0 ≤ a) (ha2 : a ≤ 1000) (hN : 1 ≤ N) (hN2 : N ≤ 4294967296) (hc : w.cell? ⟨p, 0, none⟩ = some (.slice ao 0 cap)) (hh : w.cell? ⟨p, 1, none⟩ = some (.int .i64 a)) (hf : w.frozen? ⟨p, 1, none⟩ = false) :
    Calls Try.prog 54 #[.pointer (some ⟨p, 0, none⟩), .int .i64 N] w fun e w' => ∃ r : Int, e = .returned (.int .i64 r) ∧ 0 ≤ r ∧ r < N ∧ ∃ q, w' = (w.setCell ⟨p, 1, none⟩ (.int .i64 (a + 1))).drewN q := by
  have hr := tmod_fits (x := a * 7) (N := N) (by omega) hN
  obtain ⟨t, ht⟩ : ∃ t, t = (a * 7).tmod N := ⟨_, rfl⟩
  rw [← ht] at hr
  have ht' := ht.symm
  clear ht
  go_enter Try.func54, Try.ntmps54
  go_wp2
  go_ret
  exact ⟨t, rfl, hr.1, hr.2, 0, rfl⟩
theorem rem_nat {a : Int} {n : Nat} (h0 : 0 ≤ a) (hn : 0 < n) : ∃ i : Nat, i < n ∧ a.tmod (n : Int) = (i : Int) := by
  obtain ⟨A, rfl⟩ := Int.eq_ofNat_of_zero_le h0
  exact ⟨A % n, Nat.mod_lt _ hn, by rw [Int.tmod_eq_emod_of_nonneg (by omega)]; simp⟩
theorem quo_nat {a : Int} {n : Nat} (h0 : 0 ≤ a) (hn : 0 < n) : ∃ q : Int, 0 ≤ q ∧ q ≤ a ∧ a.tdiv (n : Int) = q := by
  refine ⟨a.tdiv n, ?_, ?_, rfl⟩
  · rw [Int.tdiv_eq_ediv_of_nonneg h0]; exact Int.ediv_nonneg h0 (by omega)
  · rw [Int.tdiv_eq_ediv_of_nonneg h0]; exact Int.ediv_le_self _ h0
theorem set_other {w : World} {p b o : Nat} {u : Value} {x : Value} (h : w.cell? ⟨b, o, none⟩ = some x) (hb : b ≠ p) : (w.setCell ⟨p, 1, none⟩ u).cell? ⟨b, o, none⟩ = some x := by
  have e := Below.heap_setCell w ⟨p, 1, none⟩ u b hb
  simp only [World.cell?] at h ⊢
  rw [e]
  exact h
set_option maxHeartbeats 1600000 in
theorem next_short (b off n cap p : Nat) (a N x q : Int) (i : Nat) (w : World) (ha : 0 ≤ a) (ha2 : a ≤ 1000) (hN : 1 ≤ N) (hN2 : N ≤ 200) (hn : 0 < n) (hn2 : n ≤ 1000000000000) (hi : i < n) (hr : a.tmod (n : Int) = (i : Int)) (hq : a.tdiv (n : Int) = q) (q0 : 0 ≤ q) (q1 : q ≤ a) (x0 : 0 ≤ x) (x1 : x ≤ 255)
    (hc : w.cell? ⟨p, 0, none⟩ = some (.slice (some ⟨b, off, none⟩) n cap)) (hh : w.cell? ⟨p, 1, none⟩ = some (.int .i64 a)) (hf : w.frozen? ⟨p, 1, none⟩ = false) (hx : w.cell? ⟨b, off + i, none⟩ = some (.int .u8 x)) (hb : b ≠ p) :
    Calls Try.prog 54 #[.pointer (some ⟨p, 0, none⟩), .int .i64 N] w fun e w' => ∃ r : Int, e = .returned (.int .i64 r) ∧ 0 ≤ r ∧ r < N ∧ ∃ q, w' = (w.setCell ⟨p, 1, none⟩ (.int .i64 (a + 1))).drewN q := by
  have ht := tmod_fits (x := x + q * 37) (N := N) (by omega) hN
  obtain ⟨t, ht'⟩ : ∃ t, (x + q * 37).tmod N = t := ⟨_, rfl⟩
  rw [ht'] at ht
  have k1 := set_other (u := .int .i64 (a + 1)) hx hb
  have n0 : ¬ (n : Int) = 0 := by omega
  go_enter Try.func54, Try.ntmps54
  go_wp2
  go_quiet (fail)
  go_wp2
  go_ret
  exact ⟨t, rfl, ht.1, ht.2, nq, rfl⟩
set_option maxHeartbeats 1600000 in
theorem next_long (b off n cap p : Nat) (a N x y q : Int) (i j : Nat) (w : World) (ha : 0 ≤ a) (ha2 : a ≤ 1000) (hN : 200 < N) (hN2 : N ≤ 4294967296) (hn : 0 < n) (hn2 : n ≤ 1000000000000) (hi : i < n) (hj : j < n) (hr : a.tmod (n : Int) = (i : Int)) (hr2 : (a + 1).tmod (n : Int) = (j : Int)) (hq : a.tdiv (n : Int) = q) (q0 : 0 ≤ q) (q1 : q ≤ a) (x0 : 0 ≤ x) (x1 : x ≤ 255) (y0 : 0 ≤ y) (y1 : y ≤ 255)
    (hc : w.cell? ⟨p, 0, none⟩ = some (.slice (some ⟨b, off, none⟩) n cap)) (hh : w.cell? ⟨p, 1, none⟩ = some (.int .i64 a)) (hf : w.frozen? ⟨p, 1, none⟩ = false) (hx : w.cell? ⟨b, off + i, none⟩ = some (.int .u8 x)) (hy : w.cell? ⟨b, off + j, none⟩ = some (.int .u8 y)) (hb : b ≠ p) :
    Calls Try.prog 54 #[.pointer (some ⟨p, 0, none⟩), .int .i64 N] w fun e w' => ∃ r : Int, e = .returned (.int .i64 r) ∧ 0 ≤ r ∧ r < N ∧ ∃ q, w' = (w.setCell ⟨p, 1, none⟩ (.int .i64 (a + 1))).drewN q := by
  have ht := tmod_fits (x := (x + q * 37) * 251 + y * 13 + a) (N := N) (by omega) (by omega)
  obtain ⟨t, ht'⟩ : ∃ t, ((x + q * 37) * 251 + y * 13 + a).tmod N = t := ⟨_, rfl⟩
  rw [ht'] at ht
  have k1 := set_other (u := .int .i64 (a + 1)) hx hb
  have k2 := set_other (u := .int .i64 (a + 1)) hy hb
  have n0 : ¬ (n : Int) = 0 := by omega
  go_enter Try.func54, Try.ntmps54
  go_wp2
  go_quiet (fail)
  go_wp2
  go_quiet (fail)
  go_wp2
  go_ret
  exact ⟨t, rfl, ht.1, ht.2, _, rfl⟩
end Go.Proofs.Ytkkajcdjkfbcgaa
