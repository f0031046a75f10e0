/- The place of a name in a list of glasses: contracts of both packages. -/
import Derived.Test.YtndfncjoknibaaaDoorGq
namespace Go.Proofs.YtndfncjoknibaaaDoor
open Go.RowKit Fl
set_option linter.unusedVariables false
theorem bytes_eq (x y : ByteArray) : (x.toList == y.toList) = true ↔ x = y := by
  rw [beq_iff_eq, ByteArray.toList_eq, ByteArray.toList_eq]
  constructor
  · intro h
    obtain ⟨⟨x⟩⟩ := x
    obtain ⟨⟨y⟩⟩ := y
    simp at h
    rw [h]
  · intro h; rw [h]
theorem bytes_ne (x y : ByteArray) (h : ¬ x = y) : (x.toList == y.toList) = false := by
  cases e : (x.toList == y.toList)
  · rfl
  · exact absurd ((bytes_eq x y).1 e) h
/-- The place of the first glass of that name among n, or -1. -/
structure Found (G : Nat → Gl) (nm : ByteArray) (n : Nat) (r : Int) : Prop where
  ex : (r = -1 ∧ ∀ i, i < n → ¬ (G i).s = nm) ∨ ∃ i : Nat, i < n ∧ r = i ∧ (G i).s = nm ∧ ∀ j, j < i → ¬ (G j).s = nm
theorem Found.same {G : Nat → Gl} {nm : ByteArray} {n : Nat} {r q : Int} (h : Found G nm n r) (k : Found G nm n q) : r = q := by
  rcases h.ex with ⟨rfl, h1⟩ | ⟨i, hi, rfl, h1, h2⟩
  · rcases k.ex with ⟨rfl, _⟩ | ⟨j, hj, rfl, k1, _⟩
    · rfl
    · exact absurd k1 (h1 j hj)
  · rcases k.ex with ⟨rfl, k1⟩ | ⟨j, hj, rfl, k1, k2⟩
    · exact absurd h1 (k1 i hi)
    · by_cases e : i = j
      · rw [e]
      · rcases Nat.lt_or_ge i j with l | l
        · exact absurd h1 (k2 i l)
        · exact absurd k1 (h2 j (by omega))
set_option maxHeartbeats 1600000 in
theorem sFind_some (b off n cap : Nat) (G : Nat → Gl) (nm : ByteArray) (w : World) (hn : n ≤ 1000000000000) (hc : ∀ i, i < n → ∃ k, SixAt w b (off + i * 6) (G i) k ∧ RdRow w k (G i).n (G i).f) :
    Calls Tryd.prog 59 #[.slice (some ⟨b, off, none⟩) n cap, .string nm] w fun e w' => ∃ r, e = .returned (.int .i64 r) ∧ Found G nm n r ∧ Below w.heap.size w w' := by
  have HC : Hid (∀ i, i < n → ∃ k, SixAt w b (off + i * 6) (G i) k ∧ RdRow w k (G i).n (G i).f) := hc
  clear hc
  go_enter Tryd.func59, Tryd.ntmps59
  go_wp2_with fail
  go_loopw [5] (fun i wr => ∃ k : Nat, k ≤ n ∧ i = .int .i64 k ∧ Hid (∀ j, j < k → ¬ (G j).s = nm) ∧ Below w.heap.size w wr) (fun i _ => n - (intOf i).toNat)
  case atStart => exact ⟨0, Nat.zero_le _, rfl, fun j hj => absurd hj (Nat.not_lt_zero _), Below.refl _ _⟩
  case round =>
    obtain ⟨k, hk, rfl, HA, hR⟩ := hrel
    by_cases hkn : k < n
    · obtain ⟨kv, h6, hrow⟩ := HC.out k hkn
      obtain ⟨ao, cp, rfl⟩ := hrow.shape
      clear hrow
      obtain ⟨c0, c1, c2, c3, c4, c5⟩ := h6.later hR
      have HB : Hid (Below w.heap.size w wr) := hR
      have hsz : w.heap.size ≤ wr.heap.size := hR.size
      clear hR h6
      have hst := st64
      by_cases e : (G k).s = nm
      · have HF : Hid (Found G nm n k) := ⟨Or.inr ⟨k, hkn, rfl, e, HA.out⟩⟩
        generalize (G k).s = sk at *
        subst e
        go_wp2
        go_ret
        exact ⟨_, rfl, HF.out, HB.out⟩
      · have e' := bytes_ne _ _ e
        have HN : Hid (¬ (G k).s = nm) := e
        clear e
        go_wp2
        go_roundw
        case rel => exact ⟨k + 1, by omega, by simp, (fun j hj => by by_cases q : j = k; exact (by rw [q]; exact HN.out); exact HA.out j (by omega)), HB.out⟩
        case measure => simp [intOf]; omega
    · obtain rfl : k = n := by omega
      have HF : Hid (Found G nm k (-1)) := ⟨Or.inl ⟨rfl, HA.out⟩⟩
      go_wp2
      go_ret
      exact ⟨_, rfl, HF.out, hR⟩
theorem sFind_none (ao : Option Addr) (cap : Nat) (G : Nat → Gl) (nm : ByteArray) (w : World) :
    Calls Tryd.prog 59 #[.slice ao 0 cap, .string nm] w fun e w' => ∃ r, e = .returned (.int .i64 r) ∧ Found G nm 0 r ∧ Below w.heap.size w w' := by
  go_enter Tryd.func59, Tryd.ntmps59
  go_wp2_with fail
  refine wp_loop_rounds 1 ?_
  rw [rounds_succ]
  go_wp2
  go_ret
  exact ⟨_, rfl, ⟨Or.inl ⟨rfl, fun i hi => by omega⟩⟩, Below.refl _ _⟩
theorem sFind_any {w : World} {v : Value} {n : Nat} {G : Nat → Gl} (h : RdG w v n G) (hn : n ≤ 1000000000000) (nm : ByteArray) :
    Calls Tryd.prog 59 #[v, .string nm] w fun e w' => ∃ r, e = .returned (.int .i64 r) ∧ Found G nm n r ∧ Below w.heap.size w w' := by
  rcases h with ⟨ao, cap, rfl, rfl⟩ | ⟨b, off, cap, rfl, hc⟩
  · exact sFind_none ao cap G nm w
  · exact sFind_some b off n cap G nm w hn hc
set_option maxHeartbeats 1600000 in
theorem iFind_some (b off n cap : Nat) (G : Nat → Gl) (nm : ByteArray) (w : World) (hn : n ≤ 1000000000000) (hc : ∀ i, i < n → ∃ k, SixAt w b (off + i * 6) (G i) k ∧ RdRow w k (G i).n (G i).f) :
    Calls Tryd.prog 82 #[.slice (some ⟨b, off, none⟩) n cap, .string nm] w fun e w' => ∃ r, e = .returned (.int .i64 r) ∧ Found G nm n r ∧ Below w.heap.size w w' := by
  have HC : Hid (∀ i, i < n → ∃ k, SixAt w b (off + i * 6) (G i) k ∧ RdRow w k (G i).n (G i).f) := hc
  clear hc
  go_enter Tryd.func82, Tryd.ntmps82
  go_wp2_with fail
  go_loopw [9] (fun i wr => ∃ k : Nat, k ≤ n ∧ i = .int .i64 k ∧ Hid (∀ j, j < k → ¬ (G j).s = nm) ∧ Below w.heap.size w wr) (fun i _ => n - (intOf i).toNat)
  case atStart => exact ⟨0, Nat.zero_le _, rfl, fun j hj => absurd hj (Nat.not_lt_zero _), Below.refl _ _⟩
  case round =>
    obtain ⟨k, hk, rfl, HA, hR⟩ := hrel
    by_cases hkn : k < n
    · obtain ⟨kv, h6, hrow⟩ := HC.out k hkn
      obtain ⟨ao, cp, rfl⟩ := hrow.shape
      clear hrow
      obtain ⟨c0, c1, c2, c3, c4, c5⟩ := h6.later hR
      have HB : Hid (Below w.heap.size w wr) := hR
      have hsz : w.heap.size ≤ wr.heap.size := hR.size
      clear hR h6
      have hst := st64
      by_cases e : (G k).s = nm
      · have HF : Hid (Found G nm n k) := ⟨Or.inr ⟨k, hkn, rfl, e, HA.out⟩⟩
        generalize (G k).s = sk at *
        subst e
        go_wp2
        go_ret
        exact ⟨_, rfl, HF.out, HB.out.alloc hsz _⟩
      · have e' := bytes_ne _ _ e
        have HN : Hid (¬ (G k).s = nm) := e
        clear e
        go_wp2
        go_roundw
        case rel => exact ⟨k + 1, by omega, by simp, (fun j hj => by by_cases q : j = k; exact (by rw [q]; exact HN.out); exact HA.out j (by omega)), HB.out.alloc hsz _⟩
        case measure => simp [intOf]; omega
    · obtain rfl : k = n := by omega
      have HF : Hid (Found G nm k (-1)) := ⟨Or.inl ⟨rfl, HA.out⟩⟩
      go_wp2
      go_ret
      exact ⟨_, rfl, HF.out, hR⟩
theorem iFind_none (ao : Option Addr) (cap : Nat) (G : Nat → Gl) (nm : ByteArray) (w : World) :
    Calls Tryd.prog 82 #[.slice ao 0 cap, .string nm] w fun e w' => ∃ r, e = .returned (.int .i64 r) ∧ Found G nm 0 r ∧ Below w.heap.size w w' := by
  go_enter Tryd.func82, Tryd.ntmps82
  go_wp2_with fail
  refine wp_loop_rounds 1 ?_
  rw [rounds_succ]
  go_wp2
  go_ret
  exact ⟨_, rfl, ⟨Or.inl ⟨rfl, fun i hi => by omega⟩⟩, Below.refl _ _⟩
theorem iFind_any {w : World} {v : Value} {n : Nat} {G : Nat → Gl} (h : RdG w v n G) (hn : n ≤ 1000000000000) (nm : ByteArray) :
    Calls Tryd.prog 82 #[v, .string nm] w fun e w' => ∃ r, e = .returned (.int .i64 r) ∧ Found G nm n r ∧ Below w.heap.size w w' := by
  rcases h with ⟨ao, cap, rfl, rfl⟩ | ⟨b, off, cap, rfl, hc⟩
  · exact iFind_none ao cap G nm w
  · exact iFind_some b off n cap G nm w hn hc
end Go.Proofs.YtndfncjoknibaaaDoor
