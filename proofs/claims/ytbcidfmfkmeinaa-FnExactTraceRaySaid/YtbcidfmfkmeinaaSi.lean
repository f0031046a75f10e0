/- The program's sag of a face. -/
import Derived.Test.YtbcidfmfkmeinaaSh
import Derived.Test.YtbcidfmfkmeinaaRh
namespace Go.Proofs.Ytbcidfmfkmeinaa
open Go.RowKit Fl
set_option linter.unusedVariables false
set_option linter.unusedSimpArgs false
theorem cell_alloc_new {W : World} {c : Array Value} {t : TypeId} {r j : Nat} {v : Value} (hr : r = W.heap.size) (hc : c[j]? = some v) : (W.alloc (.cells c t)).cell? ⟨r, j, none⟩ = some v := (Blk.new hr).cell hc
theorem meth_plane : (Try.prog.info? 79).bind (fun i => (i.methods.find? (fun m => m.name == "loop.example/g00049/impl.sagAt")).map (fun m => (m.path.toList, m.func))) = some ([], some (68, false)) := by kernel_rfl
theorem meth_conic : (Try.prog.info? 81).bind (fun i => (i.methods.find? (fun m => m.name == "loop.example/g00049/impl.sagAt")).map (fun m => (m.path.toList, m.func))) = some ([], some (70, false)) := by kernel_rfl
theorem nil_plane (v : Value) (w : World) : (nilAhead 203 79 v "loop.example/g00049/impl.sagAt").run Try.prog w = .ok (some false) w := by
  obtain ⟨i, hi, h⟩ := Option.bind_eq_some_iff.1 meth_plane
  obtain ⟨m, hm, e⟩ := Option.map_eq_some_iff.1 h
  obtain ⟨e1, e2⟩ := Prod.mk.inj e
  unfold nilAhead
  simp [go_sem, typeInfo, hi, hm, e1, e2, followBlind]
theorem nil_conic (v : Value) (w : World) : (nilAhead 203 81 v "loop.example/g00049/impl.sagAt").run Try.prog w = .ok (some false) w := by
  obtain ⟨i, hi, h⟩ := Option.bind_eq_some_iff.1 meth_conic
  obtain ⟨m, hm, e⟩ := Option.map_eq_some_iff.1 h
  obtain ⟨e1, e2⟩ := Prod.mk.inj e
  unfold nilAhead
  simp [go_sem, typeInfo, hi, hm, e1, e2, followBlind]
end Go.Proofs.Ytbcidfmfkmeinaa
