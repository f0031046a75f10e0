/- How floats, rays and faces that come in are opened. -/
import Derived.Test.YtbcidfmfkmeinaaRh
import Derived.ProofKit
import Derived.OpenShut
import Derived.ChangeOld
import Derived.Below
import Derived.Lib.SmallJoins
import Derived.Deep.OwnRows
import Derived.Laws.Cover2
import Derived.Deep.Matrix
namespace Go.Proofs.Ytbcidfmfkmeinaa
open Go.ChangeShapes Go.WideShapes Go.ChangeAt Go.RowKit Go.Joins
theorem own : ownKnob Try.prog.godebug = none := by kernel_rfl
theorem laidOut : laidOutB Try.prog = true := by kernel_rfl
theorem f64_lt {n : Nat} (h : (Lit.float .f64 n).wf = true) : n < 18446744073709551616 := by
  simpa [Lit.wf] using h
theorem u64_hi {n : Int} (h : (Lit.int .u64 n).wf = true) : 0 ≤ n ∧ n ≤ 18446744073709551615 := by
  simp only [Lit.wf, Bool.and_eq_true, decide_eq_true_eq] at h
  have h1 : IntKind.u64.min = 0 := by decide
  have h2 : IntKind.u64.max = 18446744073709551615 := by decide
  omega
end Go.Proofs.Ytbcidfmfkmeinaa
namespace Go.Proofs.Ytbcidfmfkmeinaa
open Go.ChangeShapes Go.WideShapes Go.ChangeAt Go.RowKit Go.Joins Go.Deep Fl
theorem trod_float {H : Type} {enc : TypeId × Value → H} {P : Program} {w : World} {base : Nat} {spare : Nat → Bool} {held : Bool} {t : TypeId} {fuel : Nat} {cs : List Value} {x : DataW H × List MemPlace} {k : FloatKind}
    (ht : P.underlying t = some (.float k)) (h : DataW.trod enc P w base spare held fuel t cs = some x) : ∃ n, cs = [.float k n] ∧ (Lit.float k n).wf = true := by
  cases fuel with
  | zero => simp [DataW.trod] at h
  | succ n =>
    unfold DataW.trod at h
    rw [ht] at h
    split at h <;> simp_all
theorem cells25 : Try.prog.cellsOf 23 = 1 := by kernel_rfl
theorem arr6 {cs : Array Value} (h : cs.size = 6) : ∃ c0 c1 c2 c3 c4 c5, cs = #[c0, c1, c2, c3, c4, c5] := by
  obtain ⟨l⟩ := cs
  match l, h with
  | [c0, c1, c2, c3, c4, c5], _ => exact ⟨c0, c1, c2, c3, c4, c5, rfl⟩
theorem arr5 {cs : Array Value} (h : cs.size = 5) : ∃ c0 c1 c2 c3 c4, cs = #[c0, c1, c2, c3, c4] := by
  obtain ⟨l⟩ := cs
  match l, h with
  | [c0, c1, c2, c3, c4], _ => exact ⟨c0, c1, c2, c3, c4, rfl⟩
theorem cells61 : Try.prog.cellsOf 25 = 6 := by kernel_rfl
set_option maxRecDepth 100000 in
set_option maxHeartbeats 1600000 in
theorem open_ray {H : Type} {enc : TypeId × Value → H} {W : World} {base : Nat} {v : Value} {d : DataW H} {p : List MemPlace} (hv : Value.okWide Try.prog W .any base 25 v)
    (h : DataW.Trod enc Try.prog W 0 (fun _ => true) true 25 v d p) : ∃ (a : Nat → Nat) (A : Nat → Option Nat), v = Rv a ∧ Rc a A := by
  obtain ⟨cs, rfl, hsz⟩ := okWide_struct Try.underlying25 hv
  obtain ⟨c0, c1, c2, c3, c4, c5, rfl⟩ := arr6 (hsz.trans cells61)
  obtain ⟨fuel, hf⟩ := h
  have hf' : DataW.trod enc Try.prog W 0 (fun _ => true) true fuel 25 [c0, c1, c2, c3, c4, c5] = some (d, p) := by simpa [Value.cells] using hf
  obtain ⟨xs, m, _, _, _, hlen, hx⟩ := DataW.trod_struct Try.underlying25 hf'
  have hl : xs.length = 6 := hlen
  have g0 := hx 0 _ rfl
  have g1 := hx 1 _ rfl
  have g2 := hx 2 _ rfl
  have g3 := hx 3 _ rfl
  have g4 := hx 4 _ rfl
  have g5 := hx 5 _ rfl
  rw [List.getElem?_eq_getElem (by omega)] at g0 g1 g2 g3 g4 g5
  change DataW.trod enc Try.prog W 0 (fun _ => true) true m 23 (([c0, c1, c2, c3, c4, c5].drop 0).take (Try.prog.cellsOf 23)) = _ at g0
  change DataW.trod enc Try.prog W 0 (fun _ => true) true m 23 (([c0, c1, c2, c3, c4, c5].drop 1).take (Try.prog.cellsOf 23)) = _ at g1
  change DataW.trod enc Try.prog W 0 (fun _ => true) true m 23 (([c0, c1, c2, c3, c4, c5].drop 2).take (Try.prog.cellsOf 23)) = _ at g2
  change DataW.trod enc Try.prog W 0 (fun _ => true) true m 23 (([c0, c1, c2, c3, c4, c5].drop 3).take (Try.prog.cellsOf 23)) = _ at g3
  change DataW.trod enc Try.prog W 0 (fun _ => true) true m 23 (([c0, c1, c2, c3, c4, c5].drop 4).take (Try.prog.cellsOf 23)) = _ at g4
  change DataW.trod enc Try.prog W 0 (fun _ => true) true m 23 (([c0, c1, c2, c3, c4, c5].drop 5).take (Try.prog.cellsOf 23)) = _ at g5
  rw [cells25] at g0 g1 g2 g3 g4 g5
  obtain ⟨a0, e0, w0⟩ := trod_float Try.underlying23 g0
  obtain ⟨a1, e1, w1⟩ := trod_float Try.underlying23 g1
  obtain ⟨a2, e2, w2⟩ := trod_float Try.underlying23 g2
  obtain ⟨a3, e3, w3⟩ := trod_float Try.underlying23 g3
  obtain ⟨a4, e4, w4⟩ := trod_float Try.underlying23 g4
  obtain ⟨a5, e5, w5⟩ := trod_float Try.underlying23 g5
  simp at e0 e1 e2 e3 e4 e5
  subst e0 e1 e2 e3 e4 e5
  exact ⟨r6 a0 a1 a2 a3 a4 a5, fun j => cl ((r6 a0 a1 a2 a3 a4 a5) j), rfl, ⟨fun j hj => match j, hj with | 0, _ => fc_own (f64_lt w0) | 1, _ => fc_own (f64_lt w1) | 2, _ => fc_own (f64_lt w2) | 3, _ => fc_own (f64_lt w3) | 4, _ => fc_own (f64_lt w4) | 5, _ => fc_own (f64_lt w5)⟩⟩
theorem cells53 : Try.prog.cellsOf 49 = 5 := by kernel_rfl
set_option maxRecDepth 100000 in
set_option maxHeartbeats 1600000 in
theorem open_face {H : Type} {enc : TypeId × Value → H} {W : World} {base : Nat} {v : Value} {d : DataW H} {p : List MemPlace} (hv : Value.okWide Try.prog W .any base 49 v)
    (h : DataW.Trod enc Try.prog W 0 (fun _ => true) true 49 v d p) : ∃ (a : Nat → Nat) (A : Nat → Option Nat), v = Gv a ∧ Gc a A := by
  obtain ⟨cs, rfl, hsz⟩ := okWide_struct Try.underlying49 hv
  obtain ⟨c0, c1, c2, c3, c4, rfl⟩ := arr5 (hsz.trans cells53)
  obtain ⟨fuel, hf⟩ := h
  have hf' : DataW.trod enc Try.prog W 0 (fun _ => true) true fuel 49 [c0, c1, c2, c3, c4] = some (d, p) := by simpa [Value.cells] using hf
  obtain ⟨xs, m, _, _, _, hlen, hx⟩ := DataW.trod_struct Try.underlying49 hf'
  have hl : xs.length = 5 := hlen
  have g0 := hx 0 _ rfl
  have g1 := hx 1 _ rfl
  have g2 := hx 2 _ rfl
  have g3 := hx 3 _ rfl
  have g4 := hx 4 _ rfl
  rw [List.getElem?_eq_getElem (by omega)] at g0 g1 g2 g3 g4
  change DataW.trod enc Try.prog W 0 (fun _ => true) true m 23 (([c0, c1, c2, c3, c4].drop 0).take (Try.prog.cellsOf 23)) = _ at g0
  change DataW.trod enc Try.prog W 0 (fun _ => true) true m 23 (([c0, c1, c2, c3, c4].drop 1).take (Try.prog.cellsOf 23)) = _ at g1
  change DataW.trod enc Try.prog W 0 (fun _ => true) true m 23 (([c0, c1, c2, c3, c4].drop 2).take (Try.prog.cellsOf 23)) = _ at g2
  change DataW.trod enc Try.prog W 0 (fun _ => true) true m 23 (([c0, c1, c2, c3, c4].drop 3).take (Try.prog.cellsOf 23)) = _ at g3
  change DataW.trod enc Try.prog W 0 (fun _ => true) true m 23 (([c0, c1, c2, c3, c4].drop 4).take (Try.prog.cellsOf 23)) = _ at g4
  rw [cells25] at g0 g1 g2 g3 g4
  obtain ⟨a0, e0, w0⟩ := trod_float Try.underlying23 g0
  obtain ⟨a1, e1, w1⟩ := trod_float Try.underlying23 g1
  obtain ⟨a2, e2, w2⟩ := trod_float Try.underlying23 g2
  obtain ⟨a3, e3, w3⟩ := trod_float Try.underlying23 g3
  obtain ⟨a4, e4, w4⟩ := trod_float Try.underlying23 g4
  simp at e0 e1 e2 e3 e4
  subst e0 e1 e2 e3 e4
  exact ⟨r6 a0 a1 a2 a3 a4 0, fun j => cl ((r6 a0 a1 a2 a3 a4 0) j), rfl, ⟨fun j hj => match j, hj with | 0, _ => fc_own (f64_lt w0) | 1, _ => fc_own (f64_lt w1) | 2, _ => fc_own (f64_lt w2) | 3, _ => fc_own (f64_lt w3) | 4, _ => fc_own (f64_lt w4)⟩⟩
set_option maxRecDepth 100000 in
theorem open_flt {H : Type} {enc : TypeId × Value → H} {W : World} {base : Nat} {v : Value} {d : DataW H} {p : List MemPlace} (hv : Value.okWide Try.prog W .any base 23 v)
    (h : DataW.Trod enc Try.prog W 0 (fun _ => true) true 23 v d p) : ∃ x, v = .float .f64 x ∧ Fc x (cl x) := by
  obtain ⟨x, rfl, _, _, hx⟩ := open_float Try.underlying23 hv h
  exact ⟨x, rfl, fc_own (f64_lt hx)⟩
end Go.Proofs.Ytbcidfmfkmeinaa
