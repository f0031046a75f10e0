/- ParseFrac: at every text the specification and the program answer alike. -/
import Derived.Test.YtkmbcbjholpfbaaSneg
import Derived.Test.YtkmbcbjholpfbaaSpos
import Derived.Test.YtkmbcbjholpfbaaIsplit
import Derived.Test.YtkmbcbjholpfbaaIparts
import Derived.Test.YtkmbcbjholpfbaaIparse
namespace Go.Proofs.Ytkmbcbjholpfbaa
open Go.RowKit
set_option linter.unusedVariables false
/-- Both answer the same. -/
def Same (s : ByteArray) : Prop := ∃ c a n d : Int, (∀ w : World, Calls Try.prog 30 #[.string s] w fun e w' => e = .returned (.agg #[.int .i64 c, .int .i64 a, .int .i64 n, .int .i64 d]) ∧ Below w.heap.size w w') ∧
  (∀ w : World, Calls Try.prog 31 #[.string s] w fun e w' => e = .returned (.agg #[.int .i64 c, .int .i64 a, .int .i64 n, .int .i64 d]) ∧ Below w.heap.size w w')
theorem stuck_sgn (m : Bool) (r : List UInt8) : Tx.stuck 0 0 (Tx.sgn m ++ r) = Tx.stuck (if m then 1 else 0) (Tx.sgn m).length r := by
  cases m with
  | false => rfl
  | true =>
    show Tx.stuck 0 0 (45 :: r) = _
    rw [Tx.stuck_cons]
    rfl
theorem q01 (m : Bool) : (if m then (1 : Int) else 0) = 0 ∨ (if m then (1 : Int) else 0) = 1 := by cases m <;> simp
/-- A byte at which a state is stuck. -/
theorem stuck_at (q : Int) (p : Nat) (c : UInt8) (r : List UInt8) (h : Tx.delta q c.toNat = 5) : Tx.stuck q p (c :: r) = p := by rw [Tx.stuck_cons, if_pos h]
theorem delta_stuck2 (c : UInt8) (h : Tx.isD c = false) (h46 : c ≠ 46) (h47 : c ≠ 47) : Tx.delta 2 c.toNat = 5 := by
  have a := Tx.isD_f h
  have b : (c.toNat : Int) ≠ 46 := fun e => h46 (UInt8.toNat_inj.1 (by rw [show (46 : UInt8).toNat = 46 from rfl]; omega))
  have d : (c.toNat : Int) ≠ 47 := fun e => h47 (UInt8.toNat_inj.1 (by rw [show (47 : UInt8).toNat = 47 from rfl]; omega))
  unfold Tx.delta
  rw [if_neg (by omega), if_neg (by omega), if_neg (by omega)]
theorem delta_stuck01 (m : Bool) (c : UInt8) (h : Tx.isD c = false) (h45 : m = true ∨ c ≠ 45) : Tx.delta (if m then 1 else 0) c.toNat = 5 := by
  have a := Tx.isD_f h
  unfold Tx.delta
  cases m with
  | true => rw [if_neg (by omega), if_neg (by simp), if_neg (by simp)]
  | false =>
    have b : (c.toNat : Int) ≠ 45 := fun e => (h45.resolve_left (by simp)) (UInt8.toNat_inj.1 (by rw [show (45 : UInt8).toNat = 45 from rfl]; omega))
    rw [if_neg (by omega), if_neg (by omega), if_neg (by simp)]
theorem delta_stuck3 (q : Int) (c : UInt8) (h : Tx.isD c = false) (hq : q = 3 ∨ q = 4) : Tx.delta q c.toNat = 5 := by
  have a := Tx.isD_f h
  unfold Tx.delta
  rw [if_neg (by omega), if_neg (by omega), if_neg (by omega)]
theorem many_size (s : ByteArray) (w : World) (h : 4000 < s.size) (h2 : s.size ≤ 1048576) :
    Calls Try.prog 30 #[.string s] w fun e w' => e = .returned (.agg #[.int .i64 2, .int .i64 0, .int .i64 0, .int .i64 0]) ∧ Below w.heap.size w w' := by
  have hI : (4000 : Int) < (s.size : Int) := by omega
  go_enter Try.func30, Try.ntmps30
  go_wp2_with fail
  refine (textFault_any _ _ _).mono ?_
  rintro e w1 ⟨rfl, hb1⟩
  have H1 : Hid (Below w.heap.size w w1) := box_out (hb1.mono (by simp))
  obtain ⟨c0, c1, c2, c3, f0, f1, f2, f3, hz⟩ := box4 (hb1.mono (by simp))
  clear hb1
  go_wp2
  refine bodyPost_ret (v := .agg #[.int .i64 2, .int .i64 0, .int .i64 0, .int .i64 0]) (by simp [results, Try.results30, go_sem, c0, c1, c2, c3]) rfl ⟨rfl, ?_⟩
  have H2 := H1.out
  go_grown
/-- Texts at which the automaton is stuck. -/
theorem same_stuck (s : ByteArray) (l : List UInt8) (hs : s.data.toList = l) (h : s.size ≤ 4000) (p : Int) (hp : Tx.stuck 0 0 l = p) (h0 : 0 ≤ p) (h1 : p ≤ 4000)
    (hk : ∀ w : World, Calls Try.prog 30 #[.string s] w fun e w' => e = .returned (.agg #[.int .i64 5, .int .i64 p, .int .i64 0, .int .i64 0]) ∧ Below w.heap.size w w') : Same s :=
  ⟨5, p, 0, 0, hk, fun w => ip_stuck s l hs w h p hp h0 h1⟩
theorem mk_told (n d : Int) (h1 : -1000000000000000000 ≤ n) (h2 : n ≤ 1000000000000000000) (h3 : 0 ≤ d) (h4 : d ≤ 1000000000000000000) (hd : d ≠ 0) : mkC n d = resC n d ∧ mkN n d = resN n d ∧ mkD n d = resD n d ∧ (mkC n d == 6) = false := by
  obtain ⟨e1, e2, e3⟩ := mk_in (n := n) (d := d) (by omega) hd
  refine ⟨e1, e2, e3, ?_⟩
  rw [e1, beq_eq_false_iff_ne]
  unfold resC
  split <;> omega
theorem fac_bd (m : Bool) (x : Int) (h1 : 0 ≤ x) (h2 : x ≤ 999999999999999999) : -1000000000000000000 ≤ Tx.fac m * x ∧ Tx.fac m * x ≤ 1000000000000000000 := by
  cases m
  · rw [show Tx.fac false = 1 from rfl]; omega
  · rw [show Tx.fac true = -1 from rfl]; omega
end Go.Proofs.Ytkmbcbjholpfbaa
