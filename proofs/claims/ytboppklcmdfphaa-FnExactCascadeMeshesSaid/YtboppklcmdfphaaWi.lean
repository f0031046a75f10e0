/- Residues' own sums, products and inverses, called by their interface: contracts. -/
import Derived.Test.YtboppklcmdfphaaCo
import Derived.Test.YtboppklcmdfphaaVr
import Derived.Deep.RegionHeld3
import Derived.Deep.DeepCutAuto
namespace Go.Proofs.Ytboppklcmdfphaa
open Go.RowKit
set_option linter.unusedVariables false
theorem times_any (a b : Int) (w : World) : Calls Try.prog 111 #[.int .i64 a, .int .i64 b] w fun e w' => e = .returned (.int .i64 (Rm.mulM a b)) ∧ w = w' := by
  go_enter Try.func111, Try.ntmps111
  go_wp2_with fail
  refine (iMul_any _ _ _).mono ?_
  rintro e w1 ⟨rfl, rfl⟩
  go_wp2
  go_ret
  exact ⟨rfl, rfl⟩
theorem plus_any (a b : Int) (w : World) : Calls Try.prog 137 #[.int .i64 a, .int .i64 b] w fun e w' => e = .returned (.int .i64 (Rm.addM a b)) ∧ w = w' := by
  go_enter Try.func137, Try.ntmps137
  go_wp2_with fail
  refine (iAdd_any _ _ _).mono ?_
  rintro e w1 ⟨rfl, rfl⟩
  go_wp2
  go_ret
  exact ⟨rfl, rfl⟩
theorem inverse_any (a : Int) (w : World) : Calls Try.prog 110 #[.int .i64 a] w fun e w' => e = .returned (.int .i64 (Rm.invM a)) ∧ w = w' := by
  go_enter Try.func110, Try.ntmps110
  go_wp2_with fail
  refine (iInv_any _ _).mono ?_
  rintro e w1 ⟨rfl, rfl⟩
  go_wp2
  go_ret
  exact ⟨rfl, rfl⟩
theorem RdRow.get {w : World} {v : Value} {n : Nat} {f : Nat → Int} (h : RdRow w v n f) (hn : 0 < n) : ∃ b off cap, v = .slice (some ⟨b, off, none⟩) n cap ∧ ∀ i, i < n → w.cell? ⟨b, off + i, none⟩ = some (.int .i64 (f i)) := by
  rcases h with ⟨ao, cap, rfl, rfl⟩ | h
  · omega
  · exact h
theorem info56 : (Try.prog.info? 92).map (fun i => (i.zero, i.size, i.bytes)) = some (some (.int .i64 0), 1, 8) := by kernel_rfl
theorem meth_times : (Try.prog.info? 92).bind (fun i => (i.methods.find? (fun m => m.name == "loop.example/g00049/impl.times")).map (fun m => (m.path.toList, m.func))) = some ([], some (111, false)) := by kernel_rfl
theorem meth_plus : (Try.prog.info? 92).bind (fun i => (i.methods.find? (fun m => m.name == "loop.example/g00049/impl.plus")).map (fun m => (m.path.toList, m.func))) = some ([], some (137, false)) := by kernel_rfl
theorem follow_nil (t : TypeId) (x : Place) (w : World) : (follow [] t x).run Try.prog w = .ok (t, x) w := by unfold follow; rfl
theorem recv_res (v : Value) (q : Option String) (w : World) : (receiverAt 92 (.val v) false q).run Try.prog w = .ok v w := by
  have h2 := Try.underlying92
  unfold receiverAt
  simp [underlying, h2, Place.get, go_sem]
theorem meth_inverse : (Try.prog.info? 92).bind (fun i => (i.methods.find? (fun m => m.name == "loop.example/g00049/impl.inverse")).map (fun m => (m.path.toList, m.func))) = some ([], some (110, false)) := by kernel_rfl
theorem nil_times (v : Value) (w : World) : (nilAhead 251 92 v "loop.example/g00049/impl.times").run Try.prog w = .ok (some false) w := by
  obtain ⟨i, hi, h⟩ := Option.bind_eq_some_iff.1 meth_times
  obtain ⟨m, hm, e⟩ := Option.map_eq_some_iff.1 h
  obtain ⟨e1, e2⟩ := Prod.mk.inj e
  have h2 := Try.underlying92
  unfold nilAhead
  simp [go_sem, typeInfo, hi, hm, e1, e2, followBlind, underlying, h2]
theorem mrun_times (v : Value) (w : World) : (method 251 92 v "loop.example/g00049/impl.times").run Try.prog w = .ok (111, v) w := by
  obtain ⟨i, hi, h⟩ := Option.bind_eq_some_iff.1 meth_times
  obtain ⟨m, hm, e⟩ := Option.map_eq_some_iff.1 h
  obtain ⟨e1, e2⟩ := Prod.mk.inj e
  unfold method
  simp [go_sem, typeInfo, hi, hm, e1, e2, follow_nil, recv_res]
theorem nil_plus (v : Value) (w : World) : (nilAhead 251 92 v "loop.example/g00049/impl.plus").run Try.prog w = .ok (some false) w := by
  obtain ⟨i, hi, h⟩ := Option.bind_eq_some_iff.1 meth_plus
  obtain ⟨m, hm, e⟩ := Option.map_eq_some_iff.1 h
  obtain ⟨e1, e2⟩ := Prod.mk.inj e
  have h2 := Try.underlying92
  unfold nilAhead
  simp [go_sem, typeInfo, hi, hm, e1, e2, followBlind, underlying, h2]
theorem mrun_plus (v : Value) (w : World) : (method 251 92 v "loop.example/g00049/impl.plus").run Try.prog w = .ok (137, v) w := by
  obtain ⟨i, hi, h⟩ := Option.bind_eq_some_iff.1 meth_plus
  obtain ⟨m, hm, e⟩ := Option.map_eq_some_iff.1 h
  obtain ⟨e1, e2⟩ := Prod.mk.inj e
  unfold method
  simp [go_sem, typeInfo, hi, hm, e1, e2, follow_nil, recv_res]
end Go.Proofs.Ytboppklcmdfphaa
