/- A part's system by its interface: which function is called. -/
import Derived.Test.YtnikgmjjkdhjbaaMo
import Derived.Test.YtnikgmjjkdhjbaaIm
namespace Go.Proofs.Ytnikgmjjkdhjbaa
open Go.RowKit
set_option linter.unusedVariables false
theorem follow_nil (t : TypeId) (x : Place) (w : World) : (follow [] t x).run Try.prog w = .ok (t, x) w := by unfold follow; rfl
theorem meth_gap : (Try.prog.info? 136).bind (fun i => (i.methods.find? (fun m => m.name == "loop.example/g00049/impl.matrix")).map (fun m => (m.path.toList, m.func))) = some ([], some (128, false)) := by kernel_rfl
theorem recv_gap (v : Value) (q : Option String) (w : World) : (receiverAt 136 (.val v) false q).run Try.prog w = .ok v w := by
  have h2 := Try.underlying136
  unfold receiverAt
  simp [underlying, h2, Place.get, go_sem]
theorem nil_gap (v : Value) (w : World) : (nilAhead 260 136 v "loop.example/g00049/impl.matrix").run Try.prog w = .ok (some false) w := by
  obtain ⟨i, hi, h⟩ := Option.bind_eq_some_iff.1 meth_gap
  obtain ⟨m, hm, e⟩ := Option.map_eq_some_iff.1 h
  obtain ⟨e1, e2⟩ := Prod.mk.inj e
  have h2 := Try.underlying136
  unfold nilAhead
  simp [go_sem, typeInfo, hi, hm, e1, e2, followBlind, underlying, h2]
theorem mrun_gap (v : Value) (w : World) : (method 260 136 v "loop.example/g00049/impl.matrix").run Try.prog w = .ok (128, v) w := by
  obtain ⟨i, hi, h⟩ := Option.bind_eq_some_iff.1 meth_gap
  obtain ⟨m, hm, e⟩ := Option.map_eq_some_iff.1 h
  obtain ⟨e1, e2⟩ := Prod.mk.inj e
  unfold method
  simp [go_sem, typeInfo, hi, hm, e1, e2, follow_nil, recv_gap]
theorem meth_power : (Try.prog.info? 137).bind (fun i => (i.methods.find? (fun m => m.name == "loop.example/g00049/impl.matrix")).map (fun m => (m.path.toList, m.func))) = some ([], some (130, false)) := by kernel_rfl
theorem recv_power (v : Value) (q : Option String) (w : World) : (receiverAt 137 (.val v) false q).run Try.prog w = .ok v w := by
  have h2 := Try.underlying137
  unfold receiverAt
  simp [underlying, h2, Place.get, go_sem]
theorem nil_power (v : Value) (w : World) : (nilAhead 260 137 v "loop.example/g00049/impl.matrix").run Try.prog w = .ok (some false) w := by
  obtain ⟨i, hi, h⟩ := Option.bind_eq_some_iff.1 meth_power
  obtain ⟨m, hm, e⟩ := Option.map_eq_some_iff.1 h
  obtain ⟨e1, e2⟩ := Prod.mk.inj e
  have h2 := Try.underlying137
  unfold nilAhead
  simp [go_sem, typeInfo, hi, hm, e1, e2, followBlind, underlying, h2]
theorem mrun_power (v : Value) (w : World) : (method 260 137 v "loop.example/g00049/impl.matrix").run Try.prog w = .ok (130, v) w := by
  obtain ⟨i, hi, h⟩ := Option.bind_eq_some_iff.1 meth_power
  obtain ⟨m, hm, e⟩ := Option.map_eq_some_iff.1 h
  obtain ⟨e1, e2⟩ := Prod.mk.inj e
  unfold method
  simp [go_sem, typeInfo, hi, hm, e1, e2, follow_nil, recv_power]
end Go.Proofs.Ytnikgmjjkdhjbaa
