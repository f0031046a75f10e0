/- Fractions as pairs; the program's look at a list of fractions: is one of them wrong? -/
import Derived.Test.YtkkajcdjkfbcgaaSums
namespace Go.Proofs.Ytkkajcdjkfbcgaa
open Go.RowKit
set_option linter.unusedVariables false
set_option linter.unusedSimpArgs false
/-- A fraction, right or not: upper and lower number. -/
structure Q where
  n : Int
  d : Int
def Q.ok (x : Q) : Bool := rightB x.n x.d
/-- Are the first n right? -/
def allB (G : Nat → Q) (n : Nat) : Bool := (List.range n).all fun i => (G i).ok
theorem allB_no {G : Nat → Q} {n k : Nat} (hk : k < n) (h : (G k).ok = false) : allB G n = false := by
  unfold allB
  rw [List.all_eq_false]
  exact ⟨k, by simpa using hk, by simp [h]⟩
theorem allB_yes {G : Nat → Q} {n : Nat} (h : ∀ i, i < n → (G i).ok = true) : allB G n = true := by
  unfold allB
  rw [List.all_eq_true]
  intro x hx
  exact h x (by simpa using hx)
set_option maxHeartbeats 800000 in
theorem anyf (b n cap : Nat) (G : Nat → Q) (w : World) (hn : n ≤ 1000000)
    (hc : ∀ i, i < n → w.cell? ⟨b, i * 2, none⟩ = some (.int .i64 (G i).n) ∧ w.cell? ⟨b, i * 2 + 1, none⟩ = some (.int .i64 (G i).d)) :
    Calls Try.prog 109 #[.slice (some ⟨b, 0, none⟩) n cap] w fun e w' => e = .returned (.bool (!allB G n)) ∧ Below w.heap.size w w' := by
  have later : ∀ (wr : World) (p : Addr) {v : Value}, w.cell? p = some v → Below w.heap.size w wr → wr.cell? p = some v := fun wr p v h hb => (hb.cell (World.block_lt_of_cell? _ _ h)).trans h
  go_enter Try.func109, Try.ntmps109
  go_wp2_with fail
  go_loopw [7] (fun i wr => ∃ k : Nat, k ≤ n ∧ i = .int .i64 k ∧ (∀ j, j < k → (G j).ok = true) ∧ Below w.heap.size w wr) (fun i _ => n - (intOf i).toNat)
  case atStart => exact ⟨0, Nat.zero_le _, rfl, fun _ h => absurd h (by omega), Below.refl _ _⟩
  case round =>
    obtain ⟨k, hk, rfl, hs, hb⟩ := hrel
    by_cases hkn : k < n
    · have g0 : wr.cell? ⟨b, k * 2, none⟩ = some (.int .i64 (G k).n) := later _ _ (hc k hkn).1 hb
      have g1 : wr.cell? ⟨b, k * 2 + 1, none⟩ = some (.int .i64 (G k).d) := later _ _ (hc k hkn).2 hb
      have HS : Hid (∀ j, j < k → (G j).ok = true) := hs
      have HB : Hid (Below w.heap.size w wr) := hb
      clear hs hb hc later
      go_wp2_with fail
      refine (ifault _ _ _).mono ?_
      rintro e w1 ⟨rfl, hb1⟩
      have H1 : Hid (Below w.heap.size w w1) := by refine box_step ?_ hb1 (by simp); exact HB.out.alloc HB.out.size _
      clear hb1 g0 g1
      have q := fault_ne (G k).n (G k).d
      cases hr : (G k).ok
      · rw [show rightB (G k).n (G k).d = false from hr] at q
        go_wp2
        go_ret
        exact ⟨by rw [allB_no hkn hr]; rfl, H1.out⟩
      · rw [show rightB (G k).n (G k).d = true from hr] at q
        go_wp2
        go_roundw
        case rel =>
          refine ⟨k + 1, by omega, by simp, fun j hj => ?_, H1.out⟩
          by_cases e : j = k
          · rw [e]; exact hr
          · exact HS.out j (by omega)
        case measure => simp [intOf]; omega
    · obtain rfl : k = n := by omega
      clear hc later
      go_wp2
      go_ret
      exact ⟨by rw [allB_yes hs]; rfl, hb⟩
end Go.Proofs.Ytkkajcdjkfbcgaa
