/- The library's CutPrefix, IndexAny and Repeat: their contracts at this program. -/
import Derived.Test.YtkmbcbjholpfbaaStill
import Derived.Test.YtkmbcbjholpfbaaChecked
import Derived.Shelf.Lay
import Derived.Shelf.Small.Wraps
import Derived.Shelf.Strings.IndexAnyAll
import Derived.Shelf.Strings.Repeat
namespace Go.Proofs.Ytkmbcbjholpfbaa
open Go.RowKit Go.Shelf
shelf_lay Lays.n103 Nm 103 at Try as Try.lays103
shelf_lay Lays.n153 Nm 153 at Try as Try.lays153
shelf_lay Lays.n105 Nm 105 at Try as Try.lays105
theorem cutPrefix (s p : ByteArray) (w : World) :
    Calls Try.prog 54 #[.string s, .string p] w fun e w' => e = .returned (.tuple #[.string ⟨(Lib.trimPrefix s.data.toList p.data.toList).toArray⟩, .bool (Lib.hasPrefix s.data.toList p.data.toList)]) ∧ w' = w := Any.strings_CutPrefix Try.lays103 s p w
theorem set153 : (Try.prog.info? (Try.lays153_ren.t 116)).map (fun i => (i.zero, i.size)) = some (some (.agg (Array.replicate 256 (.bool false))), 256) := by kernel_rfl
theorem idxAny (s chars : ByteArray) (w : World) (hs : s.size < 4294967281) (hcs : chars.size < 4294967281)
    (has : ∀ (j : Nat) b, s.data.toList[j]? = some b → b.toNat < 128) (hac : ∀ (j : Nat) b, chars.data.toList[j]? = some b → b.toNat < 128) :
    Calls Try.prog 55 #[.string s, .string chars] w fun e w' => e = .returned (.int .i64 (Lib.indexAny s.data.toList chars.data.toList)) ∧ Below w.heap.size w w' := Any.strings_IndexAny_laid Try.lays153 set153 s chars w hs hcs has hac
theorem builderX : Builder.Extra Try.prog Try.lays105_ren where
  sizeBuilder := by kernel_rfl
  liesBuilder := by kernel_rfl
  t5 := Try.underlying5
  a5 := Try.isAgg5
  z5 := Try.sizeOf5
  v5 := Try.zeroValue5
  infoByte := by kernel_rfl
  cellsByte := by kernel_rfl
  sizeByte := by kernel_rfl
  neB5 := by decide
theorem repeatS (s : ByteArray) (c : Nat) (w : World) (hc : c ≤ 9223372036854775807) (hlen : s.size * c ≤ 140737488355328) :
    Calls Try.prog 57 #[.string s, .int .i64 c] w fun e w' => e = .returned (.string ⟨(Lib.repeatL s.data.toList c).toArray⟩) ∧ Below w.heap.size w w' := Any.strings_Repeat Try.lays105 builderX s c w hc hlen
end Go.Proofs.Ytkmbcbjholpfbaa
