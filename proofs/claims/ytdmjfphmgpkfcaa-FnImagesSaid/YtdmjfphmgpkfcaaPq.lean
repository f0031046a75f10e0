/- Lists of parts: the laws' own copies, counts and comparisons. -/
import Derived.Test.YtdmjfphmgpkfcaaOz
import Derived.Test.YtdmjfphmgpkfcaaPf
import Derived.Test.YtdmjfphmgpkfcaaBk
import Derived.Test.YtdmjfphmgpkfcaaVr
import Derived.Handy
import Derived.Deep.RegionHeld3
namespace Go.Proofs.Ytdmjfphmgpkfcaa
open Go.RowKit
set_option linter.unusedVariables false
set_option linter.unusedSimpArgs false
def ptc (g : Pt) : Nat → Value
  | 0 => .int .i64 g.k
  | 1 => .int .i64 g.x.n
  | _ => .int .i64 g.x.d
def zpt : Pt := ⟨0, ⟨0, 0⟩⟩
theorem infoPt : (Try.prog.info? 34).map (fun i => (i.zero, i.size, i.bytes)) = some (some (.agg #[.int .i64 0, .int .i64 0, .int .i64 0]), 3, 24) := by kernel_rfl
theorem makePt (n : Nat) (hn : n ≤ 1000000000) (w : World) : (Instr.makeSlice 35 (.int .i64 (n : Int)) (.int .i64 (n : Int))).run Try.prog w = .ok (.slice (some ⟨w.heap.size, 0, none⟩) n n) (w.alloc (.cells (madeCells #[.int .i64 0, .int .i64 0, .int .i64 0] (n * 3)) 34)) := by
  obtain ⟨i, hi, hzz⟩ := Option.map_eq_some_iff.1 infoPt
  simp only [Prod.mk.injEq] at hzz
  obtain ⟨hz, hs, hb⟩ := hzz
  have hr := run_make (P := Try.prog) w 35 34 i _ Try.underlying35 hi hz .i64 .i64 n n (by omega) (Int.le_refl _) (by rw [hb]; omega) (by omega)
  rw [hs] at hr
  simpa [Value.cells] using hr
theorem segmadePt (w : World) (n : Nat) : SegV (w.alloc (.cells (madeCells #[.int .i64 0, .int .i64 0, .int .i64 0] (n * 3)) 34)) w.heap.size 34 n 3 (fun _ j => ptc zpt j) := by
  refine ⟨madeCells #[.int .i64 0, .int .i64 0, .int .i64 0] (n * 3), by show (w.heap.push _)[w.heap.size]? = _; simp, fun i hi j hj => ?_⟩
  rw [made_cell (idx_lt hj hi)]
  have e : (i * 3 + j) % 3 = j := by omega
  simp only [List.size_toArray, List.length_cons, List.length_nil, Nat.zero_add, Nat.reduceAdd, e]
  match j, hj with
  | 0, _ => rfl
  | 1, _ => rfl
  | 2, _ => rfl
theorem Blk.later {W W' : World} {b : Nat} {cs : Array Value} {t : TypeId} (h : Blk W b cs t) (k : Below W.heap.size W W') : Blk W' b cs t := h.old k
theorem SegV.later {W W' : World} {b : Nat} {t : TypeId} {n m : Nat} {f : Nat → Nat → Value} (h : SegV W b t n m f) (k : Below W.heap.size W W') : SegV W' b t n m f := h.below k
theorem rdp_of {W : World} {b n : Nat} {G : Nat → Pt} (h : SegV W b 34 n 3 (fun i j => ptc (G i) j)) : RdP W b 0 n G := fun i hi =>
  ⟨by have := h.cell hi (show 0 < 3 by omega); simpa [ptc] using this, by have := h.cell hi (show 1 < 3 by omega); simpa [ptc] using this, by have := h.cell hi (show 2 < 3 by omega); simpa [ptc] using this⟩
end Go.Proofs.Ytdmjfphmgpkfcaa
