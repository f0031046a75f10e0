/- How complex numbers that come in are opened. -/
import Derived.Test.YtbagaicbochmnaaOpenF
import Derived.Test.YtbagaicbochmnaaZn
import Derived.Deep.Matrix
namespace Go.Proofs.Ytbagaicbochmnaa
open Go.ChangeShapes Go.WideShapes Go.ChangeAt Go.RowKit Go.Joins Go.Deep Fl
theorem cells31 : Try.prog.cellsOf 53 = 2 := by kernel_rfl
theorem trod_float {H : Type} {enc : TypeId × Value → H} {P : Program} {w : World} {base : Nat} {spare : Nat → Bool} {held : Bool} {t : TypeId} {fuel : Nat} {cs : List Value} {x : DataW H × List MemPlace} {k : FloatKind}
    (ht : P.underlying t = some (.float k)) (h : DataW.trod enc P w base spare held fuel t cs = some x) : ∃ n, cs = [.float k n] ∧ (Lit.float k n).wf = true := by
  cases fuel with
  | zero => simp [DataW.trod] at h
  | succ n =>
    unfold DataW.trod at h
    rw [ht] at h
    split at h <;> simp_all
theorem zc_own {a b : Nat} (ha : W64 a) (hb : W64 b) : Zc a b (cl a, cl b) := ⟨ha, hb, rfl⟩
set_option maxRecDepth 100000 in
theorem open_z {H : Type} {enc : TypeId × Value → H} {W : World} {base : Nat} {v : Value} {d : DataW H} {p : List MemPlace} (hv : Value.okWide Try.prog W .any base 53 v)
    (h : DataW.Trod enc Try.prog W 0 (fun _ => true) true 53 v d p) : ∃ a b : Nat, v = Zv a b ∧ Zc a b (cl a, cl b) := by
  obtain ⟨c0, c1, y0, y1, k, rfl, _, _, hy0, hy1⟩ := open_agg2 Try.underlying53 (by kernel_rfl) cells31 hv h
  obtain ⟨a, e0, wa⟩ := trod_float Try.underlying51 hy0
  obtain ⟨b, e1, wb⟩ := trod_float Try.underlying51 hy1
  simp at e0 e1
  exact ⟨a, b, by rw [e0, e1], zc_own (f64_lt wa) (f64_lt wb)⟩
end Go.Proofs.Ytbagaicbochmnaa
