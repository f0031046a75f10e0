/- The laws' own copies of slices of floats: a contract. -/
import Derived.Test.YtgidoceflkdklaaMem
namespace Go.Proofs.Ytgidoceflkdklaa
open Go.RowKit Fl
theorem info24 : (Try.prog.info? 52).map (fun i => (i.zero, i.size, i.bytes)) = some (some (.float .f64 0), 1, 8) := by kernel_rfl

end Go.Proofs.Ytgidoceflkdklaa
