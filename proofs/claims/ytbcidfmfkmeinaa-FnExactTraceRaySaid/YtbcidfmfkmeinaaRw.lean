/- A whole block stored, and a result read off its block. -/
import Derived.Test.YtbcidfmfkmeinaaBk
import Derived.Laws.CopyOwn
import Derived.Laws.Rows
import Derived.Laws.Tables
namespace Go.Proofs.Ytbcidfmfkmeinaa
open Go.RowKit Fl
theorem res_blk {fn : Func} {s : Nat} {t : TypeId} (hf : fn.results = #[.cell s t]) {tmps : Array Value} {r : Nat} (hp : tmps.getD s undef = .pointer (some ⟨r, 0, none⟩)) {W : World} {cs : Array Value}
    (h : (loadVar t ⟨r, 0, none⟩).run Try.prog W = .ok (.agg cs) W) : (results fn tmps).run Try.prog W = .ok (.agg cs) W := by
  have hp2 : tmps[s]?.getD undef = .pointer (some ⟨r, 0, none⟩) := by simpa using hp
  unfold loadVar at h
  unfold results loadVar
  rw [hf]
  simp [go_sem, asAddr, hp2] at h ⊢
  rw [h]
theorem Blk.setRow {W : World} {b : Nat} {cs c2 : Array Value} {t : TypeId} (h : Blk W b cs t) : Blk (W.setRow b c2) b c2 t := setRow_heap W b cs c2 t (0, 0) h
theorem Blk.setRowOther {W : World} {b r : Nat} {cs c2 : Array Value} {t : TypeId} (h : Blk W b cs t) (hr : b ≠ r) : Blk (W.setRow r c2) b cs t := (setRow_other W r b c2 hr).trans h
end Go.Proofs.Ytbcidfmfkmeinaa
