/- Residues' own sums, products and inverses, called by their interface: contracts. -/
import Derived.Test.YtpkbpikdffbadaaDoorWf
import Derived.Deep.RegionHeld3
import Derived.Deep.DeepCutAuto
namespace Go.Proofs.YtpkbpikdffbadaaDoor
open Go.RowKit
set_option linter.unusedVariables false
theorem times_any (a b : Int) (w : World) : Calls Tryd.prog 45 #[.int .i64 a, .int .i64 b] w fun e w' => e = .returned (.int .i64 (Rm.mulM a b)) ∧ w = w' := by
  go_enter Tryd.func45, Tryd.ntmps45
  go_wp2_with fail
  refine (iMul_any _ _ _).mono ?_
  rintro e w1 ⟨rfl, rfl⟩
  go_wp2
  go_ret
  exact ⟨rfl, rfl⟩
theorem plus_any (a b : Int) (w : World) : Calls Tryd.prog 74 #[.int .i64 a, .int .i64 b] w fun e w' => e = .returned (.int .i64 (Rm.addM a b)) ∧ w = w' := by
  go_enter Tryd.func74, Tryd.ntmps74
  go_wp2_with fail
  refine (iAdd_any _ _ _).mono ?_
  rintro e w1 ⟨rfl, rfl⟩
  go_wp2
  go_ret
  exact ⟨rfl, rfl⟩
theorem inverse_any (a : Int) (w : World) : Calls Tryd.prog 38 #[.int .i64 a] w fun e w' => e = .returned (.int .i64 (Rm.invM a)) ∧ w = w' := by
  go_enter Tryd.func38, Tryd.ntmps38
  go_wp2_with fail
  refine (iInv_any _ _).mono ?_
  rintro e w1 ⟨rfl, rfl⟩
  go_wp2
  go_ret
  exact ⟨rfl, rfl⟩
theorem RdRow.get {w : World} {v : Value} {n : Nat} {f : Nat → Int} (h : RdRow w v n f) (hn : 0 < n) : ∃ b off cap, v = .slice (some ⟨b, off, none⟩) n cap ∧ ∀ i, i < n → w.cell? ⟨b, off + i, none⟩ = some (.int .i64 (f i)) := by
  rcases h with ⟨ao, cap, rfl, rfl⟩ | h
  · omega
  · exact h
theorem info56 : (Tryd.prog.info? 40).map (fun i => (i.zero, i.size, i.bytes)) = some (some (.int .i64 0), 1, 8) := by kernel_rfl
theorem meth_times : (Tryd.prog.info? 40).bind (fun i => (i.methods.find? (fun m => m.name == "loop.example/g00049/impl.times")).map (fun m => (m.path.toList, m.func))) = some ([], some (45, false)) := by kernel_rfl
theorem meth_plus : (Tryd.prog.info? 40).bind (fun i => (i.methods.find? (fun m => m.name == "loop.example/g00049/impl.plus")).map (fun m => (m.path.toList, m.func))) = some ([], some (74, false)) := by kernel_rfl
theorem follow_nil (t : TypeId) (x : Place) (w : World) : (follow [] t x).run Tryd.prog w = .ok (t, x) w := by unfold follow; rfl
theorem recv_res (v : Value) (q : Option String) (w : World) : (receiverAt 40 (.val v) false q).run Tryd.prog w = .ok v w := by
  have h2 := Tryd.underlying40
  unfold receiverAt
  simp [underlying, h2, Place.get, go_sem]
theorem nil_times (v : Value) (w : World) : (nilAhead 181 40 v "loop.example/g00049/impl.times").run Tryd.prog w = .ok (some false) w := by
  obtain ⟨i, hi, h⟩ := Option.bind_eq_some_iff.1 meth_times
  obtain ⟨m, hm, e⟩ := Option.map_eq_some_iff.1 h
  obtain ⟨e1, e2⟩ := Prod.mk.inj e
  have h2 := Tryd.underlying40
  unfold nilAhead
  simp [go_sem, typeInfo, hi, hm, e1, e2, followBlind, underlying, h2]
theorem mrun_times (v : Value) (w : World) : (method 181 40 v "loop.example/g00049/impl.times").run Tryd.prog w = .ok (45, v) w := by
  obtain ⟨i, hi, h⟩ := Option.bind_eq_some_iff.1 meth_times
  obtain ⟨m, hm, e⟩ := Option.map_eq_some_iff.1 h
  obtain ⟨e1, e2⟩ := Prod.mk.inj e
  unfold method
  simp [go_sem, typeInfo, hi, hm, e1, e2, follow_nil, recv_res]
theorem nil_plus (v : Value) (w : World) : (nilAhead 181 40 v "loop.example/g00049/impl.plus").run Tryd.prog w = .ok (some false) w := by
  obtain ⟨i, hi, h⟩ := Option.bind_eq_some_iff.1 meth_plus
  obtain ⟨m, hm, e⟩ := Option.map_eq_some_iff.1 h
  obtain ⟨e1, e2⟩ := Prod.mk.inj e
  have h2 := Tryd.underlying40
  unfold nilAhead
  simp [go_sem, typeInfo, hi, hm, e1, e2, followBlind, underlying, h2]
theorem mrun_plus (v : Value) (w : World) : (method 181 40 v "loop.example/g00049/impl.plus").run Tryd.prog w = .ok (74, v) w := by
  obtain ⟨i, hi, h⟩ := Option.bind_eq_some_iff.1 meth_plus
  obtain ⟨m, hm, e⟩ := Option.map_eq_some_iff.1 h
  obtain ⟨e1, e2⟩ := Prod.mk.inj e
  unfold method
  simp [go_sem, typeInfo, hi, hm, e1, e2, follow_nil, recv_res]
end Go.Proofs.YtpkbpikdffbadaaDoor
