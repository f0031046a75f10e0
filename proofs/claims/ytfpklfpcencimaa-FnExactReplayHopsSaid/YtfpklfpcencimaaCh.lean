/- Channels in one goroutine: a select of three receives of which one channel holds a value; send, select and all else as steps of a walk whose frame is a plain call's. -/
import Derived.Conc.LoneCalls
import Derived.Orders
namespace Go.Proofs.Ytfpklfpcencimaa
open Go.Conc Go.RowKit
section
variable {P : Program} {fr : Frame} {cs : List Frame} {w w₁ : World} {es : Array Event} {c0 c1 c2 p0 p1 p2 s0 r0 s1 r1 s2 r2 : Nat} {z0 z1 z2 v : Value} {t0 t1 t2 : Bool}
theorem sel3_0 (h : stepG P true (G fr cs) w = .comm (G fr cs) #[rcase c0 z0, rcase c1 z1, rcase c2 z2] true .select w₁ es) (h0 : w₁.heap[c0]? = some (.chan p0 #[v] false s0 r0 t0)) (h1 : w₁.heap[c1]? = some (.chan p1 #[] false s1 r1 t1)) (h2 : w₁.heap[c2]? = some (.chan p2 #[] false s2 r2 t2)) :
    step P (solo (G fr cs) w) = .next (solo (G (fr.finish (.tuple #[goInt 0, .bool true, v, z1, z2])) cs) (w₁.setChan c0 p0 #[] false s0 (r0 + 1) t0)) := by
  have q0 := partners_alone (c := c0) true
  have q1 := partners_alone (c := c1) true
  have q2 := partners_alone (c := c2) true
  rw [step, stepT_solo rfl]
  simp [runT, solo, G, Array.swapAt!, Array.swapAt, h, GStep.es, communicate, ways, rcase, h0, h1, h2, q0, q1, q2, choose, Sem.run, Question.forced, bind, Sem.bind, pure, Goroutine.finishComm, commResult, World.setChan] at h ⊢
theorem sel3_1 (h : stepG P true (G fr cs) w = .comm (G fr cs) #[rcase c0 z0, rcase c1 z1, rcase c2 z2] true .select w₁ es) (h0 : w₁.heap[c0]? = some (.chan p0 #[] false s0 r0 t0)) (h1 : w₁.heap[c1]? = some (.chan p1 #[v] false s1 r1 t1)) (h2 : w₁.heap[c2]? = some (.chan p2 #[] false s2 r2 t2)) :
    step P (solo (G fr cs) w) = .next (solo (G (fr.finish (.tuple #[goInt 1, .bool true, z0, v, z2])) cs) (w₁.setChan c1 p1 #[] false s1 (r1 + 1) t1)) := by
  have q0 := partners_alone (c := c0) true
  have q1 := partners_alone (c := c1) true
  have q2 := partners_alone (c := c2) true
  rw [step, stepT_solo rfl]
  simp [runT, solo, G, Array.swapAt!, Array.swapAt, h, GStep.es, communicate, ways, rcase, h0, h1, h2, q0, q1, q2, choose, Sem.run, Question.forced, bind, Sem.bind, pure, Goroutine.finishComm, commResult, World.setChan] at h ⊢
theorem sel3_2 (h : stepG P true (G fr cs) w = .comm (G fr cs) #[rcase c0 z0, rcase c1 z1, rcase c2 z2] true .select w₁ es) (h0 : w₁.heap[c0]? = some (.chan p0 #[] false s0 r0 t0)) (h1 : w₁.heap[c1]? = some (.chan p1 #[] false s1 r1 t1)) (h2 : w₁.heap[c2]? = some (.chan p2 #[v] false s2 r2 t2)) :
    step P (solo (G fr cs) w) = .next (solo (G (fr.finish (.tuple #[goInt 2, .bool true, z0, z1, v])) cs) (w₁.setChan c2 p2 #[] false s2 (r2 + 1) t2)) := by
  have q0 := partners_alone (c := c0) true
  have q1 := partners_alone (c := c1) true
  have q2 := partners_alone (c := c2) true
  rw [step, stepT_solo rfl]
  simp [runT, solo, G, Array.swapAt!, Array.swapAt, h, GStep.es, communicate, ways, rcase, h0, h1, h2, q0, q1, q2, choose, Sem.run, Question.forced, bind, Sem.bind, pure, Goroutine.finishComm, commResult, World.setChan] at h ⊢
end
/-- The code behind is walked in the plain way: a call whose frame stands at some code and nothing else. -/
theorem loneTo_wp {P : Program} {f : FuncId} {fn : Func} {c : Code} {a : Act} {w : World} {R : Ending → World → Prop} {b : Frame} (hf : P.funcs[f]? = some fn) (hbf : b.fn = f) (hbk : b.kind = .normal) (hno : ∀ w', ¬ R .outgrown w')
    (h : c.wp P (bodyPost P fn R) a w) (cs : List Frame) : LoneTo P (fun g' w' => ∃ e fr, g' = G fr cs ∧ R e w' ∧ fr.fn = f ∧ fr.leaving P w' e) (G (b.at a [.code c]) cs) w := by
  obtain ⟨e, a', w', hq, harr⟩ := h b [] cs
  cases e with
  | normal =>
    obtain ⟨hd, v, hr, hR⟩ := hq
    exact ⟨_, w', Steps.trans harr (.one step_end), .returned v, _, rfl, hR, hbf, rfl, hd, hbk, fn, hbf ▸ hf, hr⟩
  | ret =>
    obtain ⟨hd, v, hr, hR⟩ := hq
    obtain ⟨todo, hs⟩ := harr
    exact ⟨_, w', hs, .returned v, _, rfl, hR, hbf, rfl, hd, hbk, fn, hbf ▸ hf, hr⟩
  | panic chain =>
    obtain ⟨hd, hR⟩ := hq
    obtain ⟨todo, hs⟩ := harr
    exact ⟨_, w', hs, .panicked chain, _, rfl, hR, hbf, rfl, hd, fn, hbf ▸ hf⟩
  | exit id => exact hq.elim
  | goto l => exact hq.elim
  | outgrown => exact absurd hq (hno _)
end Go.Proofs.Ytfpklfpcencimaa
