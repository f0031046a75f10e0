/- A result read off its block. -/
import Derived.Test.YtclnmikneomccaaBk
import Derived.Laws.CopyOwn
import Derived.Laws.Rows
import Derived.Laws.Tables
namespace Go.Proofs.Ytclnmikneomccaa
open Go.RowKit
theorem res_blk {fn : Func} {s : Nat} {t : TypeId} (hf : fn.results = #[.cell s t]) {tmps : Array Value} {r : Nat} (hp : tmps.getD s undef = .pointer (some ⟨r, 0, none⟩)) {W : World} {cs : Array Value}
    (h : (loadVar t ⟨r, 0, none⟩).run Try.prog W = .ok (.agg cs) W) : (results fn tmps).run Try.prog W = .ok (.agg cs) W := by
  have hp2 : tmps[s]?.getD undef = .pointer (some ⟨r, 0, none⟩) := by simpa using hp
  unfold loadVar at h
  unfold results loadVar
  rw [hf]
  simp [go_sem, asAddr, hp2] at h ⊢
  rw [h]
theorem res_of {fn : Func} {s : Nat} {t : TypeId} (hf : fn.results = #[.cell s t]) {tmps : Array Value} {r : Nat} (hp : tmps.getD s undef = .pointer (some ⟨r, 0, none⟩)) {W : World} {cs : Array Value} (h : Blk W r cs t) {fs : Array Field}
    (hu : Try.prog.underlying t = some (.struct fs)) (hi : (Try.prog.info? t).map (·.size) = some cs.size) : (results fn tmps).run Try.prog W = .ok (.agg cs) W :=
  res_blk hf hp (run_loadVar_row (P := Try.prog) _ _ t t cs (0, 0) _ h hu rfl hi)
theorem Blk.within {W W' : World} {b lo hi : Nat} {cs : Array Value} {t : TypeId} (h : Blk W b cs t) (k : Within lo hi W W') (hb : b < lo ∨ hi ≤ b) : Blk W' b cs t := by
  rcases hb with hb | hb
  · exact (k.below.block b hb).trans h
  · exact (k.above b hb h.lt).trans h
theorem keep_apart {lo hi lo' hi' : Nat} {W W' : World} (k : Within lo hi W W') (h : hi' ≤ lo ∨ hi ≤ lo') (hs : hi' ≤ W.heap.size) : Keep lo' hi' W W' := by
  rcases h with h | h
  · exact keep_under k h
  · exact keep_over k h hs
end Go.Proofs.Ytclnmikneomccaa
