/- What the faces of a list want. -/
import Derived.Test.YtjibogknakaokaaLm
import Derived.Test.YtjibogknakaokaaPb
import Derived.Deep.RegionHeldLaw
namespace Go.Proofs.Ytjibogknakaokaa
open Go.RowKit Fl
set_option linter.unusedVariables false
set_option linter.unusedSimpArgs false
theorem fi_lt (z : Int) : fi z < 18446744073709551616 := by
  unfold fi
  simpa [Lit.wf] using floatOfInt_wf .f64 z
theorem conv2_run : ∀ (z : Int) (w : World), (convert 2 25 (.int .i64 z)).run Try.prog w = .ok (.float .f64 (fi z)) w := fun z w => run_convert_int_float w 2 25 .i64 .f64 z (by rw [Try.underlying2]; rfl) Try.underlying25
def fracC (q : Q) : Option Nat := opC .quo (cl (fi q.n)) (cl (fi q.d))
def faceC (p : Ps) : Nat → Option Nat := r6 (fracC p.c) (fracC p.k) (fracC p.g) (fracC p.x) (fracC p.s) none
theorem sFrac_any (q : Q) (w : World) : FV 61 #[.agg #[.int .i64 q.n, .int .i64 q.d]] w (fracC q) := by
  unfold FV
  have hcv := conv2_run
  have hquo := quo_run
  go_enter Try.func61, Try.ntmps61
  go_wp2
  go_ret
  refine ⟨_, rfl, fc_op _ (fc_own (fi_lt _)) (fc_own (fi_lt _)) _, ?_⟩
  repeat (first | (refine below_opW ?_) | (refine Below.alloc ?_ (by simp <;> omega) _) | exact Below.refl _ _)
theorem iFrac_any (q : Q) (w : World) : FV 63 #[.agg #[.int .i64 q.n, .int .i64 q.d]] w (fracC q) := by
  unfold FV
  have hcv := conv2_run
  have hquo := quo_run
  go_enter Try.func63, Try.ntmps63
  go_wp2
  go_ret
  refine ⟨_, rfl, fc_op _ (fc_own (fi_lt _)) (fc_own (fi_lt _)) _, ?_⟩
  repeat (first | (refine below_opW ?_) | (refine Below.alloc ?_ (by simp <;> omega) _) | exact Below.refl _ _)
theorem grown_refl (Z : World) (ob : Option Nat) : Z.grownBy Z ob := ⟨rfl, rfl, rfl, Nat.le_refl _, fun _ _ _ => rfl⟩
theorem grown_call {Z W W' : World} {ob : Option Nat} (h : Z.grownBy W ob) (b : Below W.heap.size W W') : Z.grownBy W' ob :=
  ⟨b.os.trans h.os, b.tape.trans h.tape, b.output.trans h.output, Nat.le_trans h.size b.size, fun k hk hne => (b.block k (Nat.lt_of_lt_of_le hk h.size)).trans (h.block k hk hne)⟩
theorem grown_drew {Z W : World} {ob : Option Nat} (h : Z.grownBy W ob) : Z.grownBy W.drew ob := grown_call h ((Below.refl _ _).drew)
theorem grown_alloc {Z W : World} {ob : Option Nat} (h : Z.grownBy W ob) (o : Obj) : Z.grownBy (W.alloc o) ob := grown_call h ((Below.refl _ _).alloc (Nat.le_refl _) _)
theorem grown_trans {Z W W' : World} {ob : Option Nat} (h : Z.grownBy W ob) (k : W.grownBy W' ob) : Z.grownBy W' ob :=
  ⟨k.os.trans h.os, k.tape.trans h.tape, k.output.trans h.output, Nat.le_trans h.size k.size, fun b hb hne => (k.block b (Nat.lt_of_lt_of_le hb h.size) hne).trans (h.block b hb hne)⟩
theorem grown_below {Z W : World} {ob : Option Nat} {B : Nat} {w : World} (h : Z.grownBy W ob) (b : Below B w Z) (hB : B ≤ Z.heap.size) (hr : ∀ q, ob = some q → B ≤ q) : Below B w W := b.grown h hB hr
theorem info57 : (Try.prog.info? 57).map (fun i => (i.zero, i.size, i.bytes)) = some (some (.agg #[.float .f64 0, .float .f64 0, .float .f64 0, .float .f64 0, .float .f64 0]), 5, 40) := by kernel_rfl
/-- 'append(row, face)' as one step of a region that draws its order. -/
theorem step_pushG {ops : Array Oper} {o : Oper} {a : Act} {K : Act → World → Prop} {Q : Exit → Act → World → Prop} {E : Prop} (hg : o.guard = none) (s x : Operand)
    (hop : o.op = Op.call { callee := Callee.builtin Builtin.append, args := #[s, x], argTypes := #[24, 24] }) {W : World} (w : World) (u0 u1 u2 u3 u4 : Nat) (hW : W = w.alloc (.cells #[.float .f64 u0, .float .f64 u1, .float .f64 u2, .float .f64 u3, .float .f64 u4] 57))
    (base : Nat) (v : Value) (n : Nat) (xs : List Value) (hs : a.eval s = v) (hown : w.ownsRow base 57 5 v n xs) (c : Nat) (hx : a.eval x = .slice (some ⟨w.heap.size, 0, none⟩) 1 c) (hn : n ≤ 1000000000) (hbase : base ≤ w.heap.size)
    (hK : ∀ v' w', w'.ownsRow base 57 5 v' (n + 1) (xs ++ [.float .f64 u0, .float .f64 u1, .float .f64 u2, .float .f64 u3, .float .f64 u4]) → (w.alloc (.cells #[.float .f64 u0, .float .f64 u1, .float .f64 u2, .float .f64 u3, .float .f64 u4] 57)).grownBy w' v.ownBlock → v' ≠ .slice none 0 0 → K (a.put o.dst v') w') :
    if Region.wanted o (yielded ops a.tmps) = true then Oper.wp Try.prog o a W K Q else E := by
  subst hW
  have hw : Region.wanted o (yielded ops a.tmps) = true := by simp [Region.wanted, hg]
  rw [if_pos hw]
  obtain ⟨i, h1, h2, h3, h4⟩ := info_parts info57
  obtain ⟨v', w', hrun, r1, r2, r3⟩ := run_append_own (P := Try.prog) (w.alloc (.cells #[.float .f64 u0, .float .f64 u1, .float .f64 u2, .float .f64 u3, .float .f64 u4] 57)) base 24 o.type 57 i (.agg #[.float .f64 0, .float .f64 0, .float .f64 0, .float .f64 0, .float .f64 0]) 5 40 Try.underlying24 h1 h2 h3 h4 rfl (by decide) v n xs (hown.alloc _) ⟨w.heap.size, 0, none⟩ 1 c [.float .f64 u0, .float .f64 u1, .float .f64 u2, .float .f64 u3, .float .f64 u4] rfl
    (by
      intro j y hj
      match j, hj with
      | 0, hj => simp at hj; subst hj; simp [Addr.add]
      | 1, hj => simp at hj; subst hj; simp [Addr.add]
      | 2, hj => simp at hj; subst hj; simp [Addr.add]
      | 3, hj => simp at hj; subst hj; simp [Addr.add]
      | 4, hj => simp at hj; subst hj; simp [Addr.add])
    (by intro u hu; simp at hu; rcases hu with rfl | rfl | rfl | rfl | rfl <;> rfl) (by unfold maxLen; omega) (by omega) (by simp; omega)
  unfold Oper.wp
  simp [execOp, hop, resolve, invoke, builtin, hs, hx, hrun, Result.andThen]
  refine hK v' w' r1 r2 ?_
  intro e
  have := (r3.1 e).2
  omega
theorem flat_sameF {F G : Nat → List Value} : ∀ n, (∀ i, i < n → F i = G i) → flat F n = flat G n
  | 0, _ => rfl
  | n + 1, h => by rw [flat_succ, flat_succ, flat_sameF n (fun i hi => h i (by omega)), h n (by omega)]
/-- The cells of a row's face. -/
def frow (R : Nat → Nat → Nat) (i : Nat) : List Value := [.float .f64 (R i 0), .float .f64 (R i 1), .float .f64 (R i 2), .float .f64 (R i 3), .float .f64 (R i 4)]
def addR (R : Nat → Nat → Nat) (k : Nat) (g : Nat → Nat) : Nat → Nat → Nat := fun i => if i = k then g else R i
theorem frow_add (R : Nat → Nat → Nat) (k : Nat) (g : Nat → Nat) : flat (frow R) k ++ [.float .f64 (g 0), .float .f64 (g 1), .float .f64 (g 2), .float .f64 (g 3), .float .f64 (g 4)] = flat (frow (addR R k g)) (k + 1) := by
  rw [flat_succ]
  congr 1
  · apply flat_sameF
    intro i hi
    have : i ≠ k := by omega
    simp [frow, addR, this]
  · simp [frow, addR]
theorem gc_add {R : Nat → Nat → Nat} {k : Nat} {g : Nat → Nat} {A : Nat → Nat → Option Nat} (h : ∀ i, i < k → Gc (R i) (A i)) (hg : Gc g (A k)) : ∀ i, i < k + 1 → Gc (addR R k g i) (A i) := by
  intro i hi
  by_cases e : i = k
  · subst e; simpa [addR] using hg
  · simp only [addR, e, if_false]; exact h i (by omega)
end Go.Proofs.Ytjibogknakaokaa
