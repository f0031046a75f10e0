/- Which cell a place lies in: both packages' functions. -/
import Derived.Test.YtcmgafgboepllaaCw
namespace Go.Proofs.Ytcmgafgboepllaa
open Go.RowKit Fl
set_option linter.unusedVariables false
abbrev twoO : Option Nat := cl 4611686018427387904
def ltO (o p : Option Nat) : Bool := ordO o p == some .lt
def halfO (S : Nat) (C : Option Nat) : Option Nat := opC .quo (opC .mul (cl (mk (S : Int))) C) twoO
def atO (X : Option Nat) (S : Nat) (C : Option Nat) : Option Nat := opC .add X (halfO S C)
def colA (A : Option Nat) (S : Nat) (C : Option Nat) : Option Nat := if geO A zO = true ∧ ltO (opC .quo A C) (cl (mk (S : Int))) = true then (opC .quo A C).map (fun b => vv (rg b) / unit) else none
structure CP (c : Nat) : Prop where
  lx : W64 c
  s : sg c = false
  p : 0 < rg c
  f : rg c < 9218868437227405312
theorem cell_in {a c v S : Nat} {A C : Option Nat} (ha : Fc a A) (hc : Fc c C) (hv : Fc v (opC .quo A C)) (cp : CP c) (hS : S < 9007199254740992) (h1 : geO A zO = true) (h2 : ltO (opC .quo A C) (cl (mk (S : Int))) = true) :
    NN v ∧ rg v < 9218868437227405312 ∧ vv (rg v) / unit < S ∧ colA A S C = some (vv (rg v) / unit) := by
  have g1 := h1
  rw [← ge_fc ha fc_zero] at g1
  obtain ⟨na, nna⟩ := nn_of_ge ha.lx g1
  have g2 : FloatKind.f64.format.order v (mk (S : Int)) = some .lt := by
    rw [ord_fc hv (fc_own (mk_lt _))]
    simpa [ltO] using h2
  have nv : Num v := num_of_some hv.lx g2
  have cv : cl v = some v := by unfold cl; rw [if_pos nv]
  have e : opC .quo A C = some v := by rw [← hv.c, cv]
  have nc : Num c := by show rg c ≤ _; have := cp.f; omega
  have dv : Ieee.double.div a c = some v := by
    rw [← ha.c, ← hc.c] at e
    simp only [opC, cl, na, nc, if_true, Option.bind_some] at e
    show floatBits .quo .f64 a c = some v
    cases h : floatBits .quo .f64 a c with
    | none => rw [h] at e; cases e
    | some z =>
      rw [h] at e
      simp only [Option.bind_some] at e
      unfold cl at e
      split at e
      · exact e
      · cases e
  have nn := div_nn ha.lx na nna cp.lx cp.s cp.p cp.f dv
  obtain ⟨_, q1, q2⟩ := lt_side hv.lx nn hS g2
  refine ⟨nn, q1, q2, ?_⟩
  unfold colA
  rw [if_pos ⟨h1, h2⟩, e]
  rfl
theorem conv_run : ∀ (z : Int) (w : World), (convert 2 24 (.int .i64 z)).run Try.prog w = .ok (.float .f64 (mk z)) w := fun z w => run_convert_int_float w 2 24 .i64 .f64 z (by rw [Try.underlying2]; rfl) Try.underlying24
theorem fc_two : Fc 4611686018427387904 twoO := fc_own (by decide)
theorem lt_fc {x y : Nat} {o p : Option Nat} (h : Fc x o) (k : Fc y p) : (FloatKind.f64.format.order x y == some .lt) = ltO o p := by rw [ord_fc h k]; rfl
def colV (o : Option Nat) : Int := match o with | some T => (T : Int) | none => -1
def colI (o : Option Nat) : Int := match o with | some T => (T : Int) | none => 0
set_option maxRecDepth 20000 in
theorem sDown_any {v T : Nat} (hv : W64 v) (hf : rg v < 9218868437227405312) (hn : NN v) (hT : vv (rg v) / unit = T) (ht : T < 1000) (w : World) : Calls Try.prog 97 #[.float .f64 v] w fun e w' => e = .returned (.int .i64 T) ∧ w = w' := by
  have hd := fun w => down_run hv hf hn hT (by omega) w
  clear hv hf hn hT
  go_enter Try.func97, Try.ntmps97
  go_wp2
  go_ret
  exact ⟨rfl, rfl⟩
set_option maxRecDepth 20000 in
set_option maxHeartbeats 1600000 in
theorem iCell_any {a c S : Nat} {A C : Option Nat} (ha : Fc a A) (hc : Fc c C) (cp : CP c) (hS : S ≤ 20) (w : World) :
    Calls Try.prog 81 #[.float .f64 a, .float .f64 c, .int .i64 S] w fun e w' => e = .returned (.tuple #[.int .i64 (colI (colA A S C)), .bool (colA A S C).isSome]) ∧ Below w.heap.size w w' := by
  have hcv := conv_run
  obtain ⟨v, q, rq, fv⟩ := flop .quo (by simp) ha hc w
  have g1 := ge_fc ha fc_zero
  have g2 := lt_fc fv (fc_own (mk_lt (S : Int)))
  cases h1 : geO A zO with
  | false =>
    have e : colA A S C = none := by unfold colA; rw [if_neg (by simp [h1])]
    rw [h1] at g1
    rw [e]
    clear e h1 g2 fv ha hc cp
    go_enter Try.func81, Try.ntmps81
    go_wp2
    exact bodyPost_ret (v := .tuple #[.int .i64 0, .bool false]) (by simp [results, Try.results81, go_sem]) rfl ⟨rfl, Below.refl _ _⟩
  | true =>
    rw [h1] at g1
    cases h2 : ltO (opC .quo A C) (cl (mk (S : Int))) with
    | false =>
      have e : colA A S C = none := by unfold colA; rw [if_neg (by simp [h2])]
      rw [h2] at g2
      rw [e]
      have HB : Hid (Below w.heap.size w (w.drewN q)) := below_drewN (Below.refl _ _) q
      clear e h1 h2 fv ha hc cp
      go_enter Try.func81, Try.ntmps81
      go_wp2
      exact bodyPost_ret (v := .tuple #[.int .i64 0, .bool false]) (by simp [results, Try.results81, go_sem]) rfl ⟨rfl, HB.out⟩
    | true =>
      rw [h2] at g2
      obtain ⟨n1, n2, n3, n4⟩ := cell_in ha hc fv cp (by omega) h1 h2
      obtain ⟨T, hT⟩ : ∃ T, T = vv (rg v) / unit := ⟨_, rfl⟩
      rw [n4, ← hT]
      have hd := fun w => down_run fv.lx n2 n1 hT.symm (by omega) w
      have HB : Hid (Below w.heap.size w (w.drewN q)) := below_drewN (Below.refl _ _) q
      clear n1 n2 n3 n4 hT h1 h2 fv ha hc cp
      go_enter Try.func81, Try.ntmps81
      go_wp2
      exact bodyPost_ret (v := .tuple #[.int .i64 T, .bool true]) (by simp [results, Try.results81, go_sem]) rfl ⟨rfl, HB.out⟩
set_option maxRecDepth 20000 in
set_option maxHeartbeats 1600000 in
theorem sCell_any {x c S : Nat} {X C : Option Nat} (hx : Fc x X) (hc : Fc c C) (cp : CP c) (hS : S ≤ 20) (w : World) :
    Calls Try.prog 79 #[.float .f64 x, .int .i64 S, .float .f64 c] w fun e w' => e = .returned (.int .i64 (colV (colA (atO X S C) S C))) ∧ Below w.heap.size w w' := by
  have hcv := conv_run
  obtain ⟨v1, q1, r1, f1⟩ := flop .mul (by simp) (fc_own (mk_lt (S : Int))) hc w
  obtain ⟨w1, hw1⟩ : ∃ W, W = w.drewN q1 := ⟨_, rfl⟩
  obtain ⟨v2, q2, r2, f2⟩ := flop .quo (by simp) f1 fc_two w1
  obtain ⟨w2, hw2⟩ : ∃ W, W = w1.drewN q2 := ⟨_, rfl⟩
  obtain ⟨a, q3, r3, fa⟩ := flop .add (by simp) hx f2 w2
  obtain ⟨w3, hw3⟩ : ∃ W, W = w2.drewN q3 := ⟨_, rfl⟩
  obtain ⟨v, q, rq, fv⟩ := flop .quo (by simp) fa hc w3
  obtain ⟨w4, hw4⟩ : ∃ W, W = w3.drewN q := ⟨_, rfl⟩
  rw [← hw1] at r1
  rw [← hw2] at r2
  rw [← hw3] at r3
  rw [← hw4] at rq
  have b3 : Below w.heap.size w w3 := by rw [hw3, hw2, hw1]; exact below_drewN (below_drewN (below_drewN (Below.refl _ _) _) _) _
  have b4 : Below w.heap.size w w4 := by rw [hw4]; exact below_drewN b3 _
  have HB : Hid (Below w.heap.size w w3 ∧ Below w.heap.size w w4) := ⟨b3, b4⟩
  clear hw1 hw2 hw3 hw4 b3 b4 f1 f2
  have fa' : Fc a (atO X S C) := fa
  have fv' : Fc v (opC .quo (atO X S C) C) := fv
  have g1 := ge_fc fa' fc_zero
  have g2 := lt_fc fv' (fc_own (mk_lt (S : Int)))
  clear fa fv
  generalize atO X S C = A at *
  cases h1 : geO A zO with
  | false =>
    have e : colA A S C = none := by unfold colA; rw [if_neg (by simp [h1])]
    rw [h1] at g1
    rw [e]
    clear e h1 g2 fv' fa' hx hc cp
    go_enter Try.func79, Try.ntmps79
    go_wp2
    go_ret
    exact ⟨rfl, HB.out.1⟩
  | true =>
    rw [h1] at g1
    cases h2 : ltO (opC .quo A C) (cl (mk (S : Int))) with
    | false =>
      have e : colA A S C = none := by unfold colA; rw [if_neg (by simp [h2])]
      rw [h2] at g2
      rw [e]
      clear e h1 h2 fv' fa' hx hc cp
      go_enter Try.func79, Try.ntmps79
      go_wp2
      go_ret
      exact ⟨rfl, HB.out.2⟩
    | true =>
      rw [h2] at g2
      obtain ⟨n1, n2, n3, n4⟩ := cell_in fa' hc fv' cp (by omega) h1 h2
      obtain ⟨T, hT⟩ : ∃ T, T = vv (rg v) / unit := ⟨_, rfl⟩
      rw [n4, ← hT]
      have HD : Hid (∀ W, Calls Try.prog 97 #[.float .f64 v] W fun e w' => e = .returned (.int .i64 T) ∧ W = w') := fun W => sDown_any fv'.lx n2 n1 hT.symm (by omega) W
      clear n1 n2 n3 n4 hT h1 h2 fv' fa' hx hc cp
      go_enter Try.func79, Try.ntmps79
      go_wp2_with (first | (go_at_call 97; refine (HD.out _).mono ?_; rintro e wx ⟨rfl, rfl⟩))
      go_ret
      exact ⟨rfl, HB.out.2⟩
theorem col_lt {a c S : Nat} {A C : Option Nat} (ha : Fc a A) (hc : Fc c C) (cp : CP c) (hS : S ≤ 20) {T : Nat} (h : colA A S C = some T) : T < S := by
  have w : World := default
  obtain ⟨v, q, rq, fv⟩ := flop .quo (by simp) ha hc w
  by_cases h1 : geO A zO = true ∧ ltO (opC .quo A C) (cl (mk (S : Int))) = true
  · obtain ⟨n1, n2, n3, n4⟩ := cell_in ha hc fv cp (by omega) h1.1 h1.2
    rw [n4] at h
    have := Option.some.inj h
    omega
  · unfold colA at h
    rw [if_neg h1] at h
    cases h
end Go.Proofs.Ytcmgafgboepllaa
