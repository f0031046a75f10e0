/- A hop is put into the channel of what it does, and taken out again: contracts. -/
import Derived.Test.YtfpklfpcencimaaWf
import Derived.Test.YtfpklfpcencimaaCh
namespace Go.Proofs.Ytfpklfpcencimaa
open Go.RowKit Go.Conc
set_option linter.unusedVariables false
set_option linter.unusedSimpArgs false
/-- A value has been sent to the channel c, boxes made besides. -/
def Sent (w w' : World) (c : Nat) (v : Value) : Prop := ∃ W s r, Below w.heap.size w W ∧ W.heap[c]? = some (.chan 1 #[] false s r false) ∧ w' = W.setChan c 1 #[v] false (s + 1) r false
set_option maxRecDepth 100000 in
set_option maxHeartbeats 1600000 in
theorem put_go {w : World} {c0 c1 c2 : Nat} (n f : Int) (h : Chn w c0) :
    Calls Try.prog 60 #[.agg #[.chan (some c0), .chan (some c1), .chan (some c2)], .agg #[.int .i64 1, .int .i64 n, .int .i64 f]] w fun e w' => e = .returned (.tuple #[]) ∧ Sent w w' c0 (.agg #[.int .i64 1, .int .i64 n, .int .i64 f]) := by
  obtain ⟨s, r, hc⟩ := h
  obtain ⟨W, hW⟩ : ∃ W, W = (w.alloc (.cells #[.chan (some c0), .chan (some c1), .chan (some c2)] 80)).alloc (.cells #[.int .i64 1, .int .i64 n, .int .i64 f] 70) := ⟨_, rfl⟩
  have hcl : c0 < w.heap.size := (Array.getElem?_eq_some_iff.1 hc).1
  have hbl : Below w.heap.size w W := by rw [hW]; exact ((Below.refl _ _).alloc (Nat.le_refl _) _).alloc (by simp) _
  have hcW : W.heap[c0]? = some (.chan 1 #[] false s r false) := (hbl.block _ hcl).trans hc
  have BW : Blk W w.heap.size #[.chan (some c0), .chan (some c1), .chan (some c2)] 80 ∧ Blk W (w.heap.size + 1) #[.int .i64 1, .int .i64 n, .int .i64 f] 70 := by
    rw [hW]; exact ⟨(Blk.new rfl).alloc _, Blk.new (by simp)⟩
  have x0 := BW.1.cell (j := 0) (v := .chan (some c0)) rfl
  have x1 := BW.1.cell (j := 1) (v := .chan (some c1)) rfl
  have x2 := BW.1.cell (j := 2) (v := .chan (some c2)) rfl
  have y0 := BW.2.cell (j := 0) (v := .int .i64 1) rfl
  have y1 := BW.2.cell (j := 1) (v := .int .i64 n) rfl
  have y2 := BW.2.cell (j := 2) (v := .int .i64 f) rfl
  refine calls_of_loneTo fun cs => ?_
  have e : Frame.enter Try.prog 60 #[.agg #[.chan (some c0), .chan (some c1), .chan (some c2)], .agg #[.int .i64 1, .int .i64 n, .int .i64 f]] .normal = (base 60).at ⟨#[.agg #[.chan (some c0), .chan (some c1), .chan (some c2)], .agg #[.int .i64 1, .int .i64 n, .int .i64 f], undef, undef, undef, undef, undef, undef, undef, undef, undef, undef, undef, undef, undef, undef, undef, undef, undef], []⟩ [.code (Try.f60.body.getD .skip)] := by
    simp [Frame.enter, Frame.at, Try.func60, base, Try.f60]
    try rfl
  rw [e]
  clear e
  refine LoneTo.goes (n := 60) ?_
  simp only [Try.f60, Option.getD_some]
  s_c stepG_seq
  s_reg
  s_op
  s_op
  rw [← hW]
  clear hW
  s_c stepG_region_end
  s_c stepG_seq
  s_reg
  s_op
  s_op
  s_c stepG_region_end
  s_c stepG_block
  s_c stepG_seq
  s_reg
  s_op
  s_op
  s_c stepG_region_end
  s_cond true
  s_reg
  s_op
  s_op
  s_op
  s_stop
  refine LoneTo.step (step_lone_send_room (c := c0) (cap := 1) (buf := #[]) (s := s) (r := r) (tm := false) (stepG_comm (cases := #[scase c0 (.agg #[.int .i64 1, .int .i64 n, .int .i64 f]) (.tuple #[])]) (blocking := true) (shape := .send) (w' := W) rfl rfl (by decide) (by simp [execOp, scase, Act.eval])) hcW (by simp)) ?_
  rw [Frame.finish_at]
  walk_nrm
  refine LoneTo.goes (n := 15) ?_
  s_c stepG_region_end
  s_c stepG_inBlock
  s_c stepG_end
  s_stop
  refine LoneTo.done ⟨.returned (.tuple #[]), _, rfl, ⟨rfl, W, s, r, hbl, hcW, rfl⟩, rfl, rfl, rfl, rfl, _, Try.func60, by simp [results, Try.f60, Frame.at]⟩
set_option maxRecDepth 100000 in
set_option maxHeartbeats 1600000 in
theorem put_back {w : World} {c0 c1 c2 : Nat} (n f : Int) (h : Chn w c2) :
    Calls Try.prog 60 #[.agg #[.chan (some c0), .chan (some c1), .chan (some c2)], .agg #[.int .i64 5, .int .i64 n, .int .i64 f]] w fun e w' => e = .returned (.tuple #[]) ∧ Sent w w' c2 (.agg #[.int .i64 5, .int .i64 n, .int .i64 f]) := by
  obtain ⟨s, r, hc⟩ := h
  obtain ⟨W, hW⟩ : ∃ W, W = (w.alloc (.cells #[.chan (some c0), .chan (some c1), .chan (some c2)] 80)).alloc (.cells #[.int .i64 5, .int .i64 n, .int .i64 f] 70) := ⟨_, rfl⟩
  have hcl : c2 < w.heap.size := (Array.getElem?_eq_some_iff.1 hc).1
  have hbl : Below w.heap.size w W := by rw [hW]; exact ((Below.refl _ _).alloc (Nat.le_refl _) _).alloc (by simp) _
  have hcW : W.heap[c2]? = some (.chan 1 #[] false s r false) := (hbl.block _ hcl).trans hc
  have BW : Blk W w.heap.size #[.chan (some c0), .chan (some c1), .chan (some c2)] 80 ∧ Blk W (w.heap.size + 1) #[.int .i64 5, .int .i64 n, .int .i64 f] 70 := by
    rw [hW]; exact ⟨(Blk.new rfl).alloc _, Blk.new (by simp)⟩
  have x0 := BW.1.cell (j := 0) (v := .chan (some c0)) rfl
  have x1 := BW.1.cell (j := 1) (v := .chan (some c1)) rfl
  have x2 := BW.1.cell (j := 2) (v := .chan (some c2)) rfl
  have y0 := BW.2.cell (j := 0) (v := .int .i64 5) rfl
  have y1 := BW.2.cell (j := 1) (v := .int .i64 n) rfl
  have y2 := BW.2.cell (j := 2) (v := .int .i64 f) rfl
  refine calls_of_loneTo fun cs => ?_
  have e : Frame.enter Try.prog 60 #[.agg #[.chan (some c0), .chan (some c1), .chan (some c2)], .agg #[.int .i64 5, .int .i64 n, .int .i64 f]] .normal = (base 60).at ⟨#[.agg #[.chan (some c0), .chan (some c1), .chan (some c2)], .agg #[.int .i64 5, .int .i64 n, .int .i64 f], undef, undef, undef, undef, undef, undef, undef, undef, undef, undef, undef, undef, undef, undef, undef, undef, undef], []⟩ [.code (Try.f60.body.getD .skip)] := by
    simp [Frame.enter, Frame.at, Try.func60, base, Try.f60]
    try rfl
  rw [e]
  clear e
  refine LoneTo.goes (n := 60) ?_
  simp only [Try.f60, Option.getD_some]
  s_c stepG_seq
  s_reg
  s_op
  s_op
  rw [← hW]
  clear hW
  s_c stepG_region_end
  s_c stepG_seq
  s_reg
  s_op
  s_op
  s_c stepG_region_end
  s_c stepG_block
  s_c stepG_seq
  s_reg
  s_op
  s_op
  s_c stepG_region_end
  s_cond false
  s_c stepG_seq
  s_reg
  s_op
  s_op
  s_c stepG_region_end
  s_cond true
  s_reg
  s_op
  s_op
  s_op
  s_stop
  refine LoneTo.step (step_lone_send_room (c := c2) (cap := 1) (buf := #[]) (s := s) (r := r) (tm := false) (stepG_comm (cases := #[scase c2 (.agg #[.int .i64 5, .int .i64 n, .int .i64 f]) (.tuple #[])]) (blocking := true) (shape := .send) (w' := W) rfl rfl (by decide) (by simp [execOp, scase, Act.eval])) hcW (by simp)) ?_
  rw [Frame.finish_at]
  walk_nrm
  refine LoneTo.goes (n := 15) ?_
  s_c stepG_region_end
  s_c stepG_inBlock
  s_c stepG_end
  s_stop
  refine LoneTo.done ⟨.returned (.tuple #[]), _, rfl, ⟨rfl, W, s, r, hbl, hcW, rfl⟩, rfl, rfl, rfl, rfl, _, Try.func60, by simp [results, Try.f60, Frame.at]⟩
set_option maxRecDepth 100000 in
set_option maxHeartbeats 1600000 in
theorem put_stay {w : World} {c0 c1 c2 : Nat} (k : Int) (n f : Int) (h1 : (k == 1) = false) (h5 : (k == 5) = false) (h : Chn w c1) :
    Calls Try.prog 60 #[.agg #[.chan (some c0), .chan (some c1), .chan (some c2)], .agg #[.int .i64 k, .int .i64 n, .int .i64 f]] w fun e w' => e = .returned (.tuple #[]) ∧ Sent w w' c1 (.agg #[.int .i64 k, .int .i64 n, .int .i64 f]) := by
  obtain ⟨s, r, hc⟩ := h
  obtain ⟨W, hW⟩ : ∃ W, W = (w.alloc (.cells #[.chan (some c0), .chan (some c1), .chan (some c2)] 80)).alloc (.cells #[.int .i64 k, .int .i64 n, .int .i64 f] 70) := ⟨_, rfl⟩
  have hcl : c1 < w.heap.size := (Array.getElem?_eq_some_iff.1 hc).1
  have hbl : Below w.heap.size w W := by rw [hW]; exact ((Below.refl _ _).alloc (Nat.le_refl _) _).alloc (by simp) _
  have hcW : W.heap[c1]? = some (.chan 1 #[] false s r false) := (hbl.block _ hcl).trans hc
  have BW : Blk W w.heap.size #[.chan (some c0), .chan (some c1), .chan (some c2)] 80 ∧ Blk W (w.heap.size + 1) #[.int .i64 k, .int .i64 n, .int .i64 f] 70 := by
    rw [hW]; exact ⟨(Blk.new rfl).alloc _, Blk.new (by simp)⟩
  have x0 := BW.1.cell (j := 0) (v := .chan (some c0)) rfl
  have x1 := BW.1.cell (j := 1) (v := .chan (some c1)) rfl
  have x2 := BW.1.cell (j := 2) (v := .chan (some c2)) rfl
  have y0 := BW.2.cell (j := 0) (v := .int .i64 k) rfl
  have y1 := BW.2.cell (j := 1) (v := .int .i64 n) rfl
  have y2 := BW.2.cell (j := 2) (v := .int .i64 f) rfl
  refine calls_of_loneTo fun cs => ?_
  have e : Frame.enter Try.prog 60 #[.agg #[.chan (some c0), .chan (some c1), .chan (some c2)], .agg #[.int .i64 k, .int .i64 n, .int .i64 f]] .normal = (base 60).at ⟨#[.agg #[.chan (some c0), .chan (some c1), .chan (some c2)], .agg #[.int .i64 k, .int .i64 n, .int .i64 f], undef, undef, undef, undef, undef, undef, undef, undef, undef, undef, undef, undef, undef, undef, undef, undef, undef], []⟩ [.code (Try.f60.body.getD .skip)] := by
    simp [Frame.enter, Frame.at, Try.func60, base, Try.f60]
    try rfl
  rw [e]
  clear e
  refine LoneTo.goes (n := 60) ?_
  simp only [Try.f60, Option.getD_some]
  s_c stepG_seq
  s_reg
  s_op
  s_op
  rw [← hW]
  clear hW
  s_c stepG_region_end
  s_c stepG_seq
  s_reg
  s_op
  s_op
  s_c stepG_region_end
  s_c stepG_block
  s_c stepG_seq
  s_reg
  s_op
  s_op
  s_c stepG_region_end
  s_cond false
  s_c stepG_seq
  s_reg
  s_op
  s_op
  s_c stepG_region_end
  s_cond false
  s_reg
  s_op
  s_op
  s_op
  s_stop
  refine LoneTo.step (step_lone_send_room (c := c1) (cap := 1) (buf := #[]) (s := s) (r := r) (tm := false) (stepG_comm (cases := #[scase c1 (.agg #[.int .i64 k, .int .i64 n, .int .i64 f]) (.tuple #[])]) (blocking := true) (shape := .send) (w' := W) rfl rfl (by decide) (by simp [execOp, scase, Act.eval])) hcW (by simp)) ?_
  rw [Frame.finish_at]
  walk_nrm
  refine LoneTo.goes (n := 15) ?_
  s_c stepG_region_end
  s_c stepG_inBlock
  s_c stepG_end
  s_stop
  refine LoneTo.done ⟨.returned (.tuple #[]), _, rfl, ⟨rfl, W, s, r, hbl, hcW, rfl⟩, rfl, rfl, rfl, rfl, _, Try.func60, by simp [results, Try.f60, Frame.at]⟩
end Go.Proofs.Ytfpklfpcencimaa
