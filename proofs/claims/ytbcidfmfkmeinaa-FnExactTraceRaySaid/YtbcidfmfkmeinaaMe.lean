/- Which method a face's shape has: the run of the look-up. -/
import Derived.Test.YtbcidfmfkmeinaaSl
namespace Go.Proofs.Ytbcidfmfkmeinaa
open Go.RowKit Fl
theorem follow_nil (t : TypeId) (x : Place) (w : World) : (follow [] t x).run Try.prog w = .ok (t, x) w := by unfold follow; rfl
theorem recv_plane (v : Value) (q : Option String) (w : World) : (receiverAt 79 (.val v) false q).run Try.prog w = .ok v w := by
  have h2 := Try.underlying79
  unfold receiverAt
  simp [underlying, h2, Place.get, go_sem]
theorem mrun_plane (v : Value) (w : World) : (method 203 79 v "loop.example/g00049/impl.sagAt").run Try.prog w = .ok (68, v) w := by
  obtain ⟨i, hi, h⟩ := Option.bind_eq_some_iff.1 meth_plane
  obtain ⟨m, hm, e⟩ := Option.map_eq_some_iff.1 h
  obtain ⟨e1, e2⟩ := Prod.mk.inj e
  unfold method
  simp [go_sem, typeInfo, hi, hm, e1, e2, follow_nil, recv_plane]
theorem recv_conic (v : Value) (q : Option String) (w : World) : (receiverAt 81 (.val v) false q).run Try.prog w = .ok v w := by
  have h2 := Try.underlying81
  unfold receiverAt
  simp [underlying, h2, Place.get, go_sem]
theorem mrun_conic (v : Value) (w : World) : (method 203 81 v "loop.example/g00049/impl.sagAt").run Try.prog w = .ok (70, v) w := by
  obtain ⟨i, hi, h⟩ := Option.bind_eq_some_iff.1 meth_conic
  obtain ⟨m, hm, e⟩ := Option.map_eq_some_iff.1 h
  obtain ⟨e1, e2⟩ := Prod.mk.inj e
  unfold method
  simp [go_sem, typeInfo, hi, hm, e1, e2, follow_nil, recv_conic]
end Go.Proofs.Ytbcidfmfkmeinaa
