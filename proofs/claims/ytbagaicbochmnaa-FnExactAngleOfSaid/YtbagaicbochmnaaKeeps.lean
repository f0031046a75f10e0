/- A new block leaves what was there. -/
import Derived.Test.YtbagaicbochmnaaZn
namespace Go.Proofs.Ytbagaicbochmnaa
open Go.RowKit
theorem alloc_keeps {W : World} {o : Obj} {p : Addr} {v : Value} (h : W.cell? p = some v) : (W.alloc o).cell? p = some v :=
  (((Below.refl W.heap.size W).alloc (Nat.le_refl _) o).cell (World.block_lt_of_cell? _ _ h)).trans h
end Go.Proofs.Ytbagaicbochmnaa
