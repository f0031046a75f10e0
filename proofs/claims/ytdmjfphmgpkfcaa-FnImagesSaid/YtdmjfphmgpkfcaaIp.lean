/- Products apart, and two systems joined: the program's way. -/
import Derived.Test.YtdmjfphmgpkfcaaSd
import Derived.Test.YtdmjfphmgpkfcaaIi
namespace Go.Proofs.Ytdmjfphmgpkfcaa
open Go.RowKit
set_option linter.unusedVariables false
set_option linter.unusedSimpArgs false
theorem any4q (a b c d : Q) (w : World) (k : Nat) (h0 : w.cell? ⟨k, 0, none⟩ = some (.int .i64 a.n)) (h1 : w.cell? ⟨k, 1, none⟩ = some (.int .i64 a.d)) (h2 : w.cell? ⟨k, 2, none⟩ = some (.int .i64 b.n)) (h3 : w.cell? ⟨k, 3, none⟩ = some (.int .i64 b.d)) (h4 : w.cell? ⟨k, 4, none⟩ = some (.int .i64 c.n)) (h5 : w.cell? ⟨k, 5, none⟩ = some (.int .i64 c.d)) (h6 : w.cell? ⟨k, 6, none⟩ = some (.int .i64 d.n)) (h7 : w.cell? ⟨k, 7, none⟩ = some (.int .i64 d.d)) :
    Calls Try.prog 43 #[.slice (some ⟨k, 0, none⟩) 4 4] w fun e w' => e = .returned (.bool (!(a.ok && b.ok && c.ok && d.ok))) ∧ Below w.heap.size w w' := any4 ⟨a, b, c, d⟩ w k h0 h1 h2 h3 h4 h5 h6 h7
end Go.Proofs.Ytdmjfphmgpkfcaa
