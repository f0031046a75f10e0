/- Bounds of numbers: a function in a struct's field, and what it tells of numbers; the first code but 0 of a list: contracts. -/
import Derived.Test.YtclnmikneomccaaAp
import Derived.Test.YtclnmikneomccaaMl
namespace Go.Proofs.Ytclnmikneomccaa
open Go.RowKit
set_option linter.unusedVariables false
set_option linter.unusedSimpArgs false
/-- v is a bound that lets the numbers from lo to hi be, and has the code c. -/
def Bnd (w : World) (v : Value) (lo hi c : Int) : Prop := ∃ b1 b2 : Nat, v = .agg #[.func (.func 106) #[] #[.pointer (some ⟨b1, 0, none⟩), .pointer (some ⟨b2, 0, none⟩)], .int .i64 c] ∧ w.cell? ⟨b1, 0, none⟩ = some (.int .i64 lo) ∧ w.cell? ⟨b2, 0, none⟩ = some (.int .i64 hi)
theorem Bnd.later {w w' : World} {v : Value} {lo hi c : Int} (h : Bnd w v lo hi c) (hb : Below w.heap.size w w') : Bnd w' v lo hi c := by
  obtain ⟨b1, b2, e, h1, h2⟩ := h
  exact ⟨b1, b2, e, kold hb h1, kold hb h2⟩
theorem st_func (P : Program) (W : World) (p : Addr) (f : Fn) (xs ys : Array Value) (m : Mode) : (store p (.func f xs ys) m).run P W = stored P W p (.func f xs ys) m := run_store P W p _ m rfl
set_option maxRecDepth 20000 in
set_option maxHeartbeats 1600000 in
theorem between_any (lo hi c : Int) (w : World) : Calls Try.prog 93 #[.int .i64 lo, .int .i64 hi, .int .i64 c] w fun e w' => ∃ b1 b2 : Nat, e = .returned (.agg #[.func (.func 106) #[] #[.pointer (some ⟨b1, 0, none⟩), .pointer (some ⟨b2, 0, none⟩)], .int .i64 c]) ∧ w.heap.size ≤ b1 ∧ w.heap.size ≤ b2 ∧ w'.cell? ⟨b1, 0, none⟩ = some (.int .i64 lo) ∧ w'.cell? ⟨b2, 0, none⟩ = some (.int .i64 hi) ∧ Below w.heap.size w w' := by
  have hst := st_func
  go_enter Try.func93, Try.ntmps93
  go_wp2
  refine bodyPost_ret (v := .agg #[.func (.func 106) #[] #[.pointer (some ⟨w.heap.size, 0, none⟩), .pointer (some ⟨w.heap.size + 1, 0, none⟩)], .int .i64 c]) (by simp [results, Try.results93, go_sem]) rfl ⟨_, _, rfl, Nat.le_refl _, Nat.le_succ _, ?_, ?_, ?_⟩
  · go_simp
  · go_simp
  · go_grown
set_option maxRecDepth 20000 in
set_option maxHeartbeats 1600000 in
theorem bcl_any (n : Int) {lo hi : Int} {b1 b2 : Nat} {w : World} (h1 : w.cell? ⟨b1, 0, none⟩ = some (.int .i64 lo)) (h2 : w.cell? ⟨b2, 0, none⟩ = some (.int .i64 hi)) :
    Calls Try.prog 106 #[.int .i64 n, .pointer (some ⟨b1, 0, none⟩), .pointer (some ⟨b2, 0, none⟩)] w fun e w' => e = .returned (.bool (Mt.inR n lo hi)) ∧ Below w.heap.size w w' := by
  by_cases c1 : lo ≤ n
  · by_cases c2 : n ≤ hi
    · rw [show Mt.inR n lo hi = true from Mt.inR_iff.2 ⟨c1, c2⟩]
      go_enter Try.func106, Try.ntmps106
      go_wp2
      go_ret
      exact ⟨rfl, by go_grown⟩
    · rw [show Mt.inR n lo hi = false from Mt.inR_not.2 (Or.inr (by omega))]
      go_enter Try.func106, Try.ntmps106
      go_wp2
      go_ret
      exact ⟨rfl, by go_grown⟩
  · rw [show Mt.inR n lo hi = false from Mt.inR_not.2 (Or.inl (by omega))]
    go_enter Try.func106, Try.ntmps106
    go_wp2
    go_ret
    exact ⟨rfl, by go_grown⟩
/-- All of the numbers are let be. -/
theorem fault_any {w : World} {v : Value} {lo hi c : Int} {ao : Option Addr} {n cap : Nat} {f : Nat → Int} (hv : Bnd w v lo hi c) (h : RdRow w (.slice ao n cap) n f) (hn : n ≤ 1048576) :
    Calls Try.prog 94 #[v, .slice ao n cap] w fun e w' => e = .returned (.int .i64 (if Mt.all (fun k => Mt.inR (f k) lo hi) n then 0 else c)) ∧ Below w.heap.size w w' := by
  obtain ⟨b1, b2, rfl, q1, q2⟩ := hv
  have H : ∀ W, Below w.heap.size w W → Hid (RdRow W (.slice ao n cap) n f ∧ W.cell? ⟨b1, 0, none⟩ = some (.int .i64 lo) ∧ W.cell? ⟨b2, 0, none⟩ = some (.int .i64 hi)) := fun W hb => ⟨h.later hb, kold hb q1, kold hb q2⟩
  clear h q1 q2
  have hnI : (n : Int) ≤ 1048576 := by omega
  obtain ⟨C, hC⟩ : ∃ C : Int, C = if Mt.all (fun k => Mt.inR (f k) lo hi) n then 0 else c := ⟨_, rfl⟩
  have HC : Hid (C = if Mt.all (fun k => Mt.inR (f k) lo hi) n then 0 else c) := hC
  rw [← hC]
  clear hC
  obtain ⟨X, hX⟩ : ∃ X, X = w.alloc (.cells #[.func (.func 106) #[] #[.pointer (some ⟨b1, 0, none⟩), .pointer (some ⟨b2, 0, none⟩)], .int .i64 c] 111) := ⟨_, rfl⟩
  have BX : Hid (Blk X w.heap.size #[.func (.func 106) #[] #[.pointer (some ⟨b1, 0, none⟩), .pointer (some ⟨b2, 0, none⟩)], .int .i64 c] 111 ∧ Below w.heap.size w X) := by rw [hX]; exact ⟨Blk.new rfl, (Below.refl _ _).alloc (Nat.le_refl _) _⟩
  have hXz : w.heap.size ≤ X.heap.size := Nat.le_of_lt BX.out.1.lt
  go_enter Try.func94, Try.ntmps94
  go_wp2_with fail
  rw [← hX]
  clear hX
  go_loopw [9] (fun i wr => ∃ k : Nat, k ≤ n ∧ i = .int .i64 k ∧ Hid (Below X.heap.size X wr) ∧ Hid (Mt.all (fun k => Mt.inR (f k) lo hi) k = true)) (fun i _ => n - (intOf i).toNat)
  case atStart => exact ⟨0, Nat.zero_le _, rfl, Below.refl _ _, rfl⟩
  case round =>
    obtain ⟨k, hk, rfl, HB, HF⟩ := hrel
    have HB' : Hid (Below w.heap.size w wr) := BX.out.2.trans (HB.out.mono hXz)
    by_cases hkn : k < n
    · obtain ⟨hr, e1, e2⟩ := (H wr HB'.out).out
      obtain ⟨b, off, rfl, hc⟩ := hr.at hkn
      obtain ⟨x, hx⟩ : ∃ x, x = f k := ⟨_, rfl⟩
      rw [← hx] at hc
      have HX : Hid (x = f k) := hx
      have x0 : wr.cell? ⟨w.heap.size, 0, none⟩ = some (.func (.func 106) #[] #[.pointer (some ⟨b1, 0, none⟩), .pointer (some ⟨b2, 0, none⟩)]) := (BX.out.1.old HB.out).cell rfl
      have x1 : wr.cell? ⟨w.heap.size, 1, none⟩ = some (.int .i64 c) := (BX.out.1.old HB.out).cell rfl
      have HCl := bcl_any x e1 e2
      have hkI : (k : Int) < n := by omega
      clear hx hr H e1 e2
      cases hj : Mt.inR x lo hi with
      | true =>
        rw [hj] at HCl
        have HF2 : Hid (Mt.all (fun k => Mt.inR (f k) lo hi) (k + 1) = true) := Mt.all_next HF.out (by show Mt.inR (f k) lo hi = true; rw [← HX.out]; exact hj)
        clear hj
        go_wp2_with (first | (go_at_call 106; refine HCl.mono ?_; rintro e w1 ⟨rfl, hb1⟩))
        go_roundw
        case rel => exact ⟨k + 1, by omega, by simp, HB.out.trans (hb1.mono HB.out.size), HF2⟩
        case measure => simp [intOf]; omega
      | false =>
        rw [hj] at HCl
        have hA : Mt.all (fun k => Mt.inR (f k) lo hi) n = false := Mt.all_hit hkn (by show Mt.inR (f k) lo hi = false; rw [← HX.out]; exact hj)
        have hs : Hid (C = c) := by rw [HC.out, hA]; rfl
        clear hA
        clear hj
        have HW : ∀ W, Below wr.heap.size wr W → W.cell? ⟨w.heap.size, 1, none⟩ = some (.int .i64 c) := fun W h => kold h x1
        go_wp2_with (first | (go_at_call 106; refine HCl.mono ?_; rintro e w1 ⟨rfl, hb1⟩; have y1 := HW w1 hb1))
        go_ret
        exact ⟨by rw [hs.out]; rfl, HB'.out.trans (hb1.mono HB'.out.size)⟩
    · obtain rfl : n = k := by omega
      have hs : Hid (C = 0) := by show C = 0; rw [HC.out, if_pos HF.out]
      clear H
      go_wp2
      go_ret
      exact ⟨by rw [hs.out]; rfl, HB'.out⟩
set_option maxRecDepth 20000 in
set_option maxHeartbeats 1600000 in
theorem or_any {w : World} {ao : Option Addr} {n cap : Nat} {f : Nat → Int} (h : RdRow w (.slice ao n cap) n f) (hn : n ≤ 1048576) :
    Calls Try.prog 67 #[.slice ao n cap] w fun e w' => e = .returned (.int .i64 (Mt.fst f n)) ∧ Below w.heap.size w w' := by
  have H : Hid (RdRow w (.slice ao n cap) n f) := h
  clear h
  have hnI : (n : Int) ≤ 1048576 := by omega
  obtain ⟨C, hC⟩ : ∃ C, C = Mt.fst f n := ⟨_, rfl⟩
  have HC : Hid (C = Mt.fst f n) := hC
  rw [← hC]
  clear hC
  go_enter Try.func67, Try.ntmps67
  go_wp2_with fail
  go_loopw [8] (fun i wr => wr = w ∧ ∃ k : Nat, k ≤ n ∧ i = .int .i64 k ∧ Hid (Mt.fst f k = 0)) (fun i _ => n - (intOf i).toNat)
  case atStart => exact ⟨rfl, 0, Nat.zero_le _, rfl, rfl⟩
  case round =>
    obtain ⟨rfl, k, hk, rfl, HF⟩ := hrel
    by_cases hkn : k < n
    · obtain ⟨b, off, rfl, hc⟩ := H.out.at hkn
      obtain ⟨x, hx⟩ : ∃ x, x = f k := ⟨_, rfl⟩
      rw [← hx] at hc
      have hkI : (k : Int) < n := by omega
      by_cases he : x = 0
      · have HF2 : Hid (Mt.fst f (k + 1) = 0) := Mt.fst_next HF.out (by rw [← hx]; exact he)
        clear hx
        subst he
        go_wp2
        go_roundw
        case rel => exact ⟨by trivial, k + 1, by omega, by simp, HF2⟩
        case measure => simp [intOf]; omega
      · have hs : Hid (C = x) := by rw [HC.out, hx]; exact Mt.fst_hit HF.out (by rw [← hx]; exact he) hkn
        have hb : (x != 0) = true := by simpa using he
        clear hx
        go_wp2
        go_ret
        exact ⟨by rw [hs.out]; rfl, by go_grown⟩
    · obtain rfl : n = k := by omega
      have hs : Hid (C = 0) := by rw [HC.out]; exact HF.out
      go_wp2
      go_ret
      exact ⟨by rw [hs.out]; rfl, by go_grown⟩
/-- v is a list of n numbers of its own block. -/
def Lst (W : World) (v : Value) (n : Nat) (f : Nat → Int) : Prop := ∃ b : Nat, v = .slice (some ⟨b, 0, none⟩) n n ∧ ∀ i, i < n → W.cell? ⟨b, i, none⟩ = some (.int .i64 (f i))
theorem Lst.later {W W' : World} {v : Value} {n : Nat} {f : Nat → Int} (h : Lst W v n f) (hb : Below W.heap.size W W') : Lst W' v n f := by
  obtain ⟨b, e, hc⟩ := h
  exact ⟨b, e, fun i hi => kold hb (hc i hi)⟩
theorem Lst.rd {W : World} {v : Value} {n : Nat} {f : Nat → Int} (h : Lst W v n f) : RdRow W v n f := by
  obtain ⟨b, rfl, hc⟩ := h
  exact Or.inr ⟨b, 0, n, rfl, fun i hi => by simpa using hc i hi⟩
end Go.Proofs.Ytclnmikneomccaa
