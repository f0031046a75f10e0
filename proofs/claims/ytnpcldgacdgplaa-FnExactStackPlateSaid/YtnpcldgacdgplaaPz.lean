/- Complex numbers times and over a float, a float rounded down: contracts. -/
import Derived.Test.YtnpcldgacdgplaaWu
import Derived.Laws.FloatArith
namespace Go.Proofs.Ytnpcldgacdgplaa
open Go.RowKit Fl
set_option linter.unusedVariables false
set_option linter.unusedSimpArgs false
def timesC (p : CP) (f : Option Nat) : CP := (opC .mul p.1 f, opC .mul p.2 f)
def overC (p : CP) (f : Option Nat) : CP := (opC .quo p.1 f, opC .quo p.2 f)
theorem zc_op {a b x : Nat} {p : CP} {f : Option Nat} (op : BinOp) (h : Zc a b p) (k : Fc x f) (w w' : World) : Zc (opV op a x w) (opV op b x w') (opC op p.1 f, opC op p.2 f) := by
  obtain ⟨ha, hb, e⟩ := h
  subst e
  exact ⟨opV_lt _ _ _ _, opV_lt _ _ _ _, by rw [opV_cl _ ha k.lx, opV_cl _ hb k.lx, k.c]⟩
set_option maxHeartbeats 1600000 in
theorem sTimes_any {a b x : Nat} {p : CP} {f : Option Nat} (h : Zc a b p) (k : Fc x f) (w : World) : ZV 50 #[Zv a b, .float .f64 x] w (timesC p f) := by
  unfold ZV
  have hop := mulD
  have hst := st64
  go_enter Try.func50, Try.ntmps50
  go_wp2
  refine bodyPost_ret (v := Zv _ _) (by simp [results, Try.results50, go_sem]; exact ⟨rfl, rfl⟩) rfl ⟨_, _, rfl, zc_op .mul h k _ _, ?_⟩
  repeat (first | (refine below_drewN ?_ _) | (refine Below.setCell ?_ (by simp <;> omega) _) | (refine Below.alloc ?_ (by simp <;> omega) _) | exact Below.refl _ _)
set_option maxHeartbeats 1600000 in
theorem sOver_any {a b x : Nat} {p : CP} {f : Option Nat} (h : Zc a b p) (k : Fc x f) (w : World) : ZV 73 #[Zv a b, .float .f64 x] w (overC p f) := by
  unfold ZV
  have hop := quoD
  have hst := st64
  go_enter Try.func73, Try.ntmps73
  go_wp2
  refine bodyPost_ret (v := Zv _ _) (by simp [results, Try.results73, go_sem]; exact ⟨rfl, rfl⟩) rfl ⟨_, _, rfl, zc_op .quo h k _ _, ?_⟩
  repeat (first | (refine below_drewN ?_ _) | (refine Below.setCell ?_ (by simp <;> omega) _) | (refine Below.alloc ?_ (by simp <;> omega) _) | exact Below.refl _ _)
set_option maxHeartbeats 1600000 in
theorem iTimes_any {a b x : Nat} {p : CP} {f : Option Nat} (h : Zc a b p) (k : Fc x f) (w : World) : ZV 55 #[Zv a b, .float .f64 x] w (timesC p f) := by
  unfold ZV
  have hop := mulD
  have hst := st64
  go_enter Try.func55, Try.ntmps55
  go_wp2
  refine bodyPost_ret (v := Zv _ _) (by simp [results, Try.results55, go_sem]; exact ⟨rfl, rfl⟩) rfl ⟨_, _, rfl, zc_op .mul h k _ _, ?_⟩
  repeat (first | (refine below_drewN ?_ _) | (refine Below.setCell ?_ (by simp <;> omega) _) | (refine Below.alloc ?_ (by simp <;> omega) _) | exact Below.refl _ _)
set_option maxHeartbeats 1600000 in
theorem iOver_any {a b x : Nat} {p : CP} {f : Option Nat} (h : Zc a b p) (k : Fc x f) (w : World) : ZV 76 #[Zv a b, .float .f64 x] w (overC p f) := by
  unfold ZV
  have hop := quoD
  have hst := st64
  go_enter Try.func76, Try.ntmps76
  go_wp2
  refine bodyPost_ret (v := Zv _ _) (by simp [results, Try.results76, go_sem]; exact ⟨rfl, rfl⟩) rfl ⟨_, _, rfl, zc_op .quo h k _ _, ?_⟩
  repeat (first | (refine below_drewN ?_ _) | (refine Below.setCell ?_ (by simp <;> omega) _) | (refine Below.alloc ?_ (by simp <;> omega) _) | exact Below.refl _ _)
theorem arch95 {x : Nat} {m : Nat} {p : Int} (h : FloatKind.f64.decode x = .number false m p) (w : World) : (callFunc 95 #[.float .f64 x]).run Try.prog w = .ok (.value (.float .f64 (FloatKind.f64.encode ((FloatKind.f64.decode x).integral .down)))) w := by
  rw [run_callFunc_extern Try.func95 (by kernel_rfl) (by kernel_rfl) (by kernel_rfl) (e := Extern.MathFloor.toIntegral "math.archFloor" .down) (by kernel_rfl)]
  show (Sem.run Try.prog (Extern.MathFloor.toIntegral.match_1 (fun _ => Sem Value) (FloatKind.f64.decode x) _ _) w).andThen _ = _
  rw [h]
  rfl
theorem floor_any {x : Nat} (h : Pos x 60) : ∃ (z : Nat) (n : Int), floatToIntVal .f64 z .i64 = some n ∧ floatToIntVal .f64 x .i64 = some n ∧ ∀ w, Calls Try.prog 74 #[.float .f64 x] w fun e w' => e = .returned (.float .f64 z) ∧ w = w' := by
  obtain ⟨z, n, hz, h1, h2⟩ := floor_int h
  refine ⟨z, n, h1, h2, fun w => ?_⟩
  have hd : FloatKind.decode .f64 x = .number false (mg (rg x)) (pl (rg x)) := by
    have := read_fin h.bd.1 (h.bd.fin (by omega))
    rw [h.sn] at this
    exact this
  have hr := arch95 hd
  rw [hz] at hr
  clear hd hz h1 h2 h
  go_enter Try.func74, Try.ntmps74
  go_wp2
  go_ret
  exact ⟨rfl, rfl⟩
theorem toInt_run {x : Nat} {n : Int} (h : floatToIntVal .f64 x .i64 = some n) : ∀ w, (convert 22 2 (.float .f64 x)).run Try.prog w = .ok (.int .i64 n) w :=
  fun w => run_convert_float_int w 22 2 .f64 .i64 _ _ (by rw [Try.underlying22]; rfl) Try.underlying2 h
theorem down_any {x : Nat} {n : Int} (h : floatToIntVal .f64 x .i64 = some n) (w : World) : Calls Try.prog 72 #[.float .f64 x] w fun e w' => e = .returned (.int .i64 n) ∧ w = w' := by
  have hr := toInt_run h
  clear h
  go_enter Try.func72, Try.ntmps72
  go_wp2
  go_ret
  exact ⟨rfl, rfl⟩
/-- A whole number as a float. -/
def fi (z : Int) : Nat := floatOfInt .f64 z
theorem fi_lt (z : Int) : fi z < 18446744073709551616 := by
  unfold fi
  simpa [Lit.wf] using floatOfInt_wf .f64 z
theorem conv_run : ∀ (z : Int) (w : World), (convert 2 22 (.int .i64 z)).run Try.prog w = .ok (.float .f64 (fi z)) w := fun z w => run_convert_int_float w 2 22 .i64 .f64 z (by rw [Try.underlying2]; rfl) Try.underlying22
theorem fi_nat {z : Int} (h : 0 ≤ z) : fi z = F false z.toNat 0 := by
  unfold fi
  rw [← floatOfInt_F]
  congr 1
  omega
end Go.Proofs.Ytnpcldgacdgplaa
