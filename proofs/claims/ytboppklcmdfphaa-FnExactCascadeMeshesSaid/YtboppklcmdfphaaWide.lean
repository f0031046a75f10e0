/- The program's copy of residues with room for more columns: contract. -/
import Derived.Test.YtboppklcmdfphaaImulok
namespace Go.Proofs.Ytboppklcmdfphaa
open Go.RowKit
set_option linter.unusedVariables false
/-- The residues, rows ahead of i and the first j numbers of row i laid, of the first n columns. -/
def wideTo (A : Rm.Mx) (n i j : Nat) : Rm.Mx := fun r c => if c < n ∧ (r < i ∨ (r = i ∧ c < j)) then Rm.md (A r c) else 0
structure WdIn (w0 w : World) (m ma : Lie) (n wd : Nat) (La : Nat → Nat) (A F : Rm.Mx) : Prop where
  a : Mat 0 w0.heap.size w ma n La A
  m : Mat w0.heap.size w.heap.size w m n (fun _ => wd) F
  below : Below w0.heap.size w0 w
theorem WdIn.set {w0 w : World} {m ma : Lie} {n wd : Nat} {La : Nat → Nat} {A F : Rm.Mx} (h : WdIn w0 w m ma n wd La A F) {i j : Nat} (hi : i < n) (hj : j < wd) (x : Int) :
    WdIn w0 (w.setCell ⟨m.bs i, m.os i + j, none⟩ (.int .i64 x)) m ma n wd La A (fun r c => if r = i ∧ c = j then x else F r c) := by
  have hl := h.m.rlo i hi
  refine ⟨h.a.keep fun k _ hk => Below.heap_setCell _ _ _ _ (by show k ≠ m.bs i; omega), ?_, h.below.setCell (by show w0.heap.size ≤ m.bs i; omega) _⟩
  have := h.m.set hi hj x
  rwa [← World.size_setCell (w := w) (a := ⟨m.bs i, m.os i + j, none⟩) (v := .int .i64 x)] at this
theorem WdIn.congr {w0 w : World} {m ma : Lie} {n wd : Nat} {La : Nat → Nat} {A F G : Rm.Mx} (h : WdIn w0 w m ma n wd La A F) (e : ∀ i j, i < n → j < wd → F i j = G i j) : WdIn w0 w m ma n wd La A G := ⟨h.a, h.m.congr e, h.below⟩
theorem WdIn.drewN {w0 w : World} {m ma : Lie} {n wd : Nat} {La : Nat → Nat} {A F : Rm.Mx} (h : WdIn w0 w m ma n wd La A F) (q : Nat) : WdIn w0 (w.drewN q) m ma n wd La A F :=
  ⟨h.a.keep fun _ _ _ => rfl, h.m.keep fun _ _ _ => rfl, below_drewN h.below q⟩
set_option maxHeartbeats 1600000 in
theorem wide_any {ma : Lie} {n more : Nat} {La : Nat → Nat} {A : Rm.Mx} {w : World} (hA : Mat 0 w.heap.size w ma n La A) (hn : n ≤ 24) (hmore : more ≤ 24) (hLa : ∀ k, k < n → La k = n) :
    Calls Try.prog 61 #[.slice (some ⟨ma.b, 0, none⟩) n ma.cap, .int .i64 more] w fun e w' => e = .returned (.slice (some ⟨w.heap.size, 0, none⟩) n n) ∧
      Mat w.heap.size w'.heap.size w' (newLie w.heap.size n (fun _ => n + more)) n (fun _ => n + more) (fun i j => if j < n then Rm.md (A i j) else 0) ∧ Below w.heap.size w w' := by
  have LA : Hid (∀ k, k < n → La k = n) := hLa
  have MA : Hid (Mat 0 w.heap.size w ma n La A) := hA
  clear hA hLa
  go_enter Try.func61, Try.ntmps61
  go_wp2_with fail
  rw [show (n : Int) + (more : Int) = ((n + more : Nat) : Int) from by omega]
  refine (zeroRows_any _ _ _ (by omega) (by omega)).mono ?_
  rintro e w1 ⟨rfl, hm1, hb1⟩
  obtain ⟨m, hm⟩ : ∃ m : Lie, m = newLie w.heap.size n (fun _ => n + more) := ⟨_, rfl⟩
  have E : Hid (m = newLie w.heap.size n (fun _ => n + more) ∧ m.b = w.heap.size) := ⟨hm, by rw [hm]; rfl⟩
  have HI : Hid (WdIn w w1 m ma n (n + more) La A (wideTo A n 0 0)) := by
    rw [← hm] at hm1
    exact ⟨MA.out.keep fun k _ hk => hb1.block k hk, hm1.congr fun i j _ _ => by simp [wideTo], hb1⟩
  clear hm1 hb1 hm MA
  go_wp2_with fail
  go_loopw [17] (fun c wr => ∃ i : Nat, i ≤ n ∧ c = .int .i64 i ∧ WdIn w wr m ma n (n + more) La A (wideTo A n i 0)) (fun c _ => n - (intOf c).toNat)
  case atStart => exact ⟨0, Nat.zero_le _, rfl, HI.out⟩
  case round =>
    obtain ⟨i, hi, rfl, hr⟩ := hrel
    clear HI
    have HO : Hid (WdIn w wr m ma n (n + more) La A (wideTo A n i 0)) := hr
    clear hr
    by_cases hin : i < n
    · go_wp2_with fail
      go_loopw [21] (fun c wx => ∃ j : Nat, j ≤ n ∧ c = .int .i64 j ∧ WdIn w wx m ma n (n + more) La A (wideTo A n i j)) (fun c _ => n - (intOf c).toNat)
      case atStart => exact ⟨0, Nat.zero_le _, rfl, HO.out⟩
      case round =>
        obtain ⟨j, hj, rfl, hr⟩ := hrel
        clear HO
        by_cases hjn : j < n
        · obtain ⟨wd, hwd⟩ : ∃ wd, wd = n + more := ⟨_, rfl⟩
          rw [← hwd] at hr
          have hjw : j < wd := by omega
          have HWD : Hid (wd = n + more) := hwd
          clear hwd
          have g1 : wr.cell? ⟨w.heap.size, i, none⟩ = some (.slice (some ⟨m.bs i, m.os i, none⟩) wd (m.cs i)) := by rw [← E.out.2]; exact hr.m.cellRow hin
          have g2 : wr.cell? ⟨ma.b, i, none⟩ = some (.slice (some ⟨ma.bs i, ma.os i, none⟩) n (ma.cs i)) := by have := hr.a.cellRow hin; rw [LA.out i hin] at this; exact this
          have g3 : wr.cell? ⟨m.bs i, m.os i + j, none⟩ = some (.int .i64 (wideTo A n i j i j)) := hr.m.cellAt hin hjw
          have g4 : wr.frozen? ⟨m.bs i, m.os i + j, none⟩ = false := (hr.m.row i hin).frozen _
          have g5 : wr.cell? ⟨ma.bs i, ma.os i + j, none⟩ = some (.int .i64 (A i j)) := hr.a.cellAt hin (by rw [LA.out i hin]; exact hjn)
          have HN : Hid (WdIn w (wr.setCell ⟨m.bs i, m.os i + j, none⟩ (.int .i64 (Rm.md (A i j)))).drew m ma n (n + more) La A (wideTo A n i (j + 1))) := by
            rw [← HWD.out]
            refine ((hr.set hin hjw (Rm.md (A i j))).congr fun r c _ _ => ?_).drewN 1
            unfold wideTo
            by_cases e : r = i ∧ c = j
            · obtain ⟨rfl, rfl⟩ := e; rw [if_pos ⟨rfl, rfl⟩, if_pos ⟨hjn, Or.inr ⟨rfl, by omega⟩⟩]
            · rw [if_neg e]
              by_cases e2 : c < n ∧ (r < i ∨ (r = i ∧ c < j))
              · rw [if_pos e2, if_pos (by omega)]
              · rw [if_neg e2, if_neg (by omega)]
          clear hr
          go_wp2_with fail
          go_region_with (first | (go_at_call 64; refine (residue_any _ _).mono ?_; rintro e w1 ⟨rfl, rfl⟩))
          all_goals
            go_wp2
            exact ⟨⟨j + 1, by omega, by simp, HN.out⟩, by simp [intOf]; omega⟩
        · obtain rfl : j = n := by omega
          have HX : Hid (WdIn w wr m ma j (j + more) La A (wideTo A j (i + 1) 0)) := hr.congr fun r c hr hc => by
            unfold wideTo
            by_cases e2 : c < j ∧ (r < i ∨ (r = i ∧ c < j))
            · rw [if_pos e2, if_pos (by omega)]
            · rw [if_neg e2, if_neg (by omega)]
          clear hr
          go_wp2
          exact ⟨⟨i + 1, by omega, by simp, HX.out⟩, by simp [intOf]; omega⟩
    · obtain rfl : i = n := by omega
      go_wp2
      go_ret
      refine ⟨rfl, ?_, HO.out.below⟩
      rw [← E.out.1]
      exact HO.out.m.congr fun r c hr hc => by
        unfold wideTo
        by_cases e : c < i
        · rw [if_pos ⟨e, Or.inl hr⟩, if_pos e]
        · rw [if_neg (by omega), if_neg e]
end Go.Proofs.Ytboppklcmdfphaa
