/- Which method a face's shape has: the run of the look-up. -/
import Derived.Test.YtjibogknakaokaaSl
namespace Go.Proofs.Ytjibogknakaokaa
open Go.RowKit Fl
theorem follow_nil (t : TypeId) (x : Place) (w : World) : (follow [] t x).run Try.prog w = .ok (t, x) w := by unfold follow; rfl
theorem recv_plane (v : Value) (q : Option String) (w : World) : (receiverAt 142 (.val v) false q).run Try.prog w = .ok v w := by
  have h2 := Try.underlying142
  unfold receiverAt
  simp [underlying, h2, Place.get, go_sem]
theorem mrun_plane (v : Value) (w : World) : (method 270 142 v "loop.example/g00049/impl.sagAt").run Try.prog w = .ok (127, v) w := by
  obtain ⟨i, hi, h⟩ := Option.bind_eq_some_iff.1 meth_plane
  obtain ⟨m, hm, e⟩ := Option.map_eq_some_iff.1 h
  obtain ⟨e1, e2⟩ := Prod.mk.inj e
  unfold method
  simp [go_sem, typeInfo, hi, hm, e1, e2, follow_nil, recv_plane]
theorem recv_conic (v : Value) (q : Option String) (w : World) : (receiverAt 144 (.val v) false q).run Try.prog w = .ok v w := by
  have h2 := Try.underlying144
  unfold receiverAt
  simp [underlying, h2, Place.get, go_sem]
theorem mrun_conic (v : Value) (w : World) : (method 270 144 v "loop.example/g00049/impl.sagAt").run Try.prog w = .ok (129, v) w := by
  obtain ⟨i, hi, h⟩ := Option.bind_eq_some_iff.1 meth_conic
  obtain ⟨m, hm, e⟩ := Option.map_eq_some_iff.1 h
  obtain ⟨e1, e2⟩ := Prod.mk.inj e
  unfold method
  simp [go_sem, typeInfo, hi, hm, e1, e2, follow_nil, recv_conic]
end Go.Proofs.Ytjibogknakaokaa
