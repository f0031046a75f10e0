/- The four operations on fractions as pairs: their codes, their values, both packages. -/
import Derived.Test.YtkkajcdjkfbcgaaIo
namespace Go.Proofs.Ytkkajcdjkfbcgaa
open Go.RowKit
def mulC (x y : Q) : Int := opC x.n x.d y.n y.d (x.n * y.n) (x.d * y.d)
def mulK (x y : Q) : Bool := mulC x y == 0
def mulQ (x y : Q) : Q := ⟨opN x.n x.d y.n y.d (x.n * y.n) (x.d * y.d), opD x.n x.d y.n y.d (x.n * y.n) (x.d * y.d)⟩
def addC (x y : Q) : Int := opC x.n x.d y.n y.d (x.n * y.d + y.n * x.d) (x.d * y.d)
def addK (x y : Q) : Bool := addC x y == 0
def addQ (x y : Q) : Q := ⟨opN x.n x.d y.n y.d (x.n * y.d + y.n * x.d) (x.d * y.d), opD x.n x.d y.n y.d (x.n * y.d + y.n * x.d) (x.d * y.d)⟩
def subC (x y : Q) : Int := opC x.n x.d y.n y.d (x.n * y.d - y.n * x.d) (x.d * y.d)
def subK (x y : Q) : Bool := subC x y == 0
def subQ (x y : Q) : Q := ⟨opN x.n x.d y.n y.d (x.n * y.d - y.n * x.d) (x.d * y.d), opD x.n x.d y.n y.d (x.n * y.d - y.n * x.d) (x.d * y.d)⟩
def divC (x y : Q) : Int := quC x.n x.d y.n y.d (x.n * y.d) (x.d * y.n)
def divK (x y : Q) : Bool := divC x y == 0
def divQ (x y : Q) : Q := ⟨quN x.n x.d y.n y.d (x.n * y.d) (x.d * y.n), quD x.n x.d y.n y.d (x.n * y.d) (x.d * y.n)⟩
def zQ : Q := ⟨0, 0⟩
theorem smulq (x y : Q) (w : World) : Calls Try.prog 107 #[.agg #[.int .i64 x.n, .int .i64 x.d], .agg #[.int .i64 y.n, .int .i64 y.d]] w fun e w' => e = .returned (.agg #[.int .i64 (mulC x y), .int .i64 (mulQ x y).n, .int .i64 (mulQ x y).d]) ∧ Below w.heap.size w w' := smul _ _ _ _ _
theorem saddq (x y : Q) (w : World) : Calls Try.prog 24 #[.agg #[.int .i64 x.n, .int .i64 x.d], .agg #[.int .i64 y.n, .int .i64 y.d]] w fun e w' => e = .returned (.agg #[.int .i64 (addC x y), .int .i64 (addQ x y).n, .int .i64 (addQ x y).d]) ∧ Below w.heap.size w w' := sadd _ _ _ _ _
theorem sdivq (x y : Q) (w : World) : Calls Try.prog 124 #[.agg #[.int .i64 x.n, .int .i64 x.d], .agg #[.int .i64 y.n, .int .i64 y.d]] w fun e w' => e = .returned (.agg #[.int .i64 (divC x y), .int .i64 (divQ x y).n, .int .i64 (divQ x y).d]) ∧ Below w.heap.size w w' := sdiv _ _ _ _ _
theorem imulq (x y : Q) (w : World) : Calls Try.prog 112 #[.agg #[.int .i64 x.n, .int .i64 x.d], .agg #[.int .i64 y.n, .int .i64 y.d]] w fun e w' => e = .returned (.agg #[.int .i64 (mulC x y), .int .i64 (mulQ x y).n, .int .i64 (mulQ x y).d]) ∧ Below w.heap.size w w' := imul _ _ _ _ _
theorem iaddq (x y : Q) (w : World) : Calls Try.prog 114 #[.agg #[.int .i64 x.n, .int .i64 x.d], .agg #[.int .i64 y.n, .int .i64 y.d]] w fun e w' => e = .returned (.agg #[.int .i64 (addC x y), .int .i64 (addQ x y).n, .int .i64 (addQ x y).d]) ∧ Below w.heap.size w w' := iadd _ _ _ _ _
theorem isubq (x y : Q) (w : World) : Calls Try.prog 113 #[.agg #[.int .i64 x.n, .int .i64 x.d], .agg #[.int .i64 y.n, .int .i64 y.d]] w fun e w' => e = .returned (.agg #[.int .i64 (subC x y), .int .i64 (subQ x y).n, .int .i64 (subQ x y).d]) ∧ Below w.heap.size w w' := isub _ _ _ _ _
theorem idivq (x y : Q) (w : World) : Calls Try.prog 126 #[.agg #[.int .i64 x.n, .int .i64 x.d], .agg #[.int .i64 y.n, .int .i64 y.d]] w fun e w' => e = .returned (.agg #[.int .i64 (divC x y), .int .i64 (divQ x y).n, .int .i64 (divQ x y).d]) ∧ Below w.heap.size w w' := idiv _ _ _ _ _
theorem sfaultq (x : Q) (w : World) : Calls Try.prog 105 #[.agg #[.int .i64 x.n, .int .i64 x.d]] w fun e w' => e = .returned (.int .i64 (fault x.n x.d)) ∧ Below w.heap.size w w' := sfault _ _ _
theorem ifaultq (x : Q) (w : World) : Calls Try.prog 125 #[.agg #[.int .i64 x.n, .int .i64 x.d]] w fun e w' => e = .returned (.int .i64 (fault x.n x.d)) ∧ Below w.heap.size w w' := ifault _ _ _
end Go.Proofs.Ytkkajcdjkfbcgaa
