/- Lists of parts, and what is wrong with one: both ways. -/
import Derived.Test.YtkkajcdjkfbcgaaPe
import Derived.Test.YtkkajcdjkfbcgaaTl
namespace Go.Proofs.Ytkkajcdjkfbcgaa
open Go.RowKit
set_option linter.unusedVariables false
set_option linter.unusedSimpArgs false
def Pt.ok (p : Pt) : Bool := pfault p.k p.x == 0
theorem pfault_01 (k : Int) (x : Q) : pfault k x = 0 ∨ pfault k x = 1 := by
  unfold pfault fault
  split
  · split <;> simp
  · exact Or.inr rfl
theorem pt_no {p : Pt} (h : p.ok = false) : pfault p.k p.x = 1 := by
  rcases pfault_01 p.k p.x with e | e
  · rw [Pt.ok, e] at h; exact absurd h (by decide)
  · exact e
theorem pt_yes {p : Pt} (h : p.ok = true) : pfault p.k p.x = 0 := by simpa [Pt.ok] using h
def allP (G : Nat → Pt) (n : Nat) : Bool := (List.range n).all fun i => (G i).ok
theorem allP_no {G : Nat → Pt} {n k : Nat} (hk : k < n) (h : (G k).ok = false) : allP G n = false := by
  unfold allP
  rw [List.all_eq_false]
  exact ⟨k, by simpa using hk, by simp [h]⟩
theorem allP_yes {G : Nat → Pt} {n : Nat} (h : ∀ i, i < n → (G i).ok = true) : allP G n = true := by
  unfold allP
  rw [List.all_eq_true]
  intro x hx
  exact h x (by simpa using hx)
theorem allP_at {G : Nat → Pt} {n i : Nat} (h : allP G n = true) (hi : i < n) : (G i).ok = true := by
  unfold allP at h
  rw [List.all_eq_true] at h
  exact h i (by simpa using hi)
/-- The code of a list of parts. -/
def lC (G : Nat → Pt) (n : Nat) : Int := if 200 < n then 2 else if allP G n = true then 0 else 1
/-- n parts lie in block b from cell off on. -/
def RdP (W : World) (b off n : Nat) (G : Nat → Pt) : Prop := ∀ i, i < n → W.cell? ⟨b, off + i * 3, none⟩ = some (.int .i64 (G i).k) ∧ W.cell? ⟨b, off + i * 3 + 1, none⟩ = some (.int .i64 (G i).x.n) ∧ W.cell? ⟨b, off + i * 3 + 2, none⟩ = some (.int .i64 (G i).x.d)
theorem RdP.old {W W' : World} {b off n : Nat} {G : Nat → Pt} (h : RdP W b off n G) (k : Below W.heap.size W W') : RdP W' b off n G := fun i hi =>
  ⟨kold k (h i hi).1, kold k (h i hi).2.1, kold k (h i hi).2.2⟩
theorem RdP.later {w wr : World} {B b off n : Nat} {G : Nat → Pt} (h : RdP w b off n G) (k : Below B w wr) (hB : w.heap.size ≤ B) : RdP wr b off n G := h.old (k.mono hB)
set_option maxHeartbeats 1600000 in
theorem sparts (b off n cap : Nat) (G : Nat → Pt) (w : World) (hn : n ≤ 1000000000) (hc : RdP w b off n G) :
    Calls Try.prog 76 #[.slice (some ⟨b, off, none⟩) n cap] w fun e w' => e = .returned (.int .i64 (lC G n)) ∧ Below w.heap.size w w' := by
  by_cases hbig : 200 < n
  · rw [show lC G n = 2 from if_pos hbig]
    go_enter Try.func76, Try.ntmps76
    go_wp2
    go_ret
    exact ⟨rfl, Below.refl _ _⟩
  · have hl : lC G n = if allP G n = true then 0 else 1 := if_neg hbig
    go_enter Try.func76, Try.ntmps76
    go_wp2_with fail
    go_loopw [3] (fun i wr => ∃ k : Nat, k ≤ n ∧ i = .int .i64 k ∧ (∀ j, j < k → (G j).ok = true) ∧ Below w.heap.size w wr) (fun i _ => n - (intOf i).toNat)
    case atStart => exact ⟨0, Nat.zero_le _, rfl, fun _ h => absurd h (by omega), Below.refl _ _⟩
    case round =>
      obtain ⟨k, hk, rfl, hs, hb⟩ := hrel
      by_cases hkn : k < n
      · obtain ⟨g0, g1, g2⟩ := (hc.old hb) k hkn
        have HS : Hid (∀ j, j < k → (G j).ok = true) := hs
        have HB : Hid (Below w.heap.size w wr) := hb
        clear hs hb hc
        go_wp2_with fail
        refine (spfault _ _ _).mono ?_
        rintro e w1 ⟨rfl, hb1⟩
        have H1 : Hid (Below w.heap.size w w1) := box_step HB.out hb1 (Nat.le_refl _)
        clear hb1 g0 g1 g2
        cases hr : (G k).ok
        · have q := pt_no hr
          go_wp2
          go_ret
          exact ⟨by rw [hl, allP_no hkn hr]; rfl, H1.out⟩
        · have q := pt_yes hr
          go_wp2
          go_roundw
          case rel =>
            refine ⟨k + 1, by omega, by simp, fun j hj => ?_, H1.out⟩
            by_cases e : j = k
            · rw [e]; exact hr
            · exact HS.out j (by omega)
          case measure => simp [intOf]; omega
      · obtain rfl : k = n := by omega
        clear hc
        go_wp2
        go_ret
        exact ⟨by rw [hl, allP_yes hs]; rfl, hb⟩
end Go.Proofs.Ytkkajcdjkfbcgaa
