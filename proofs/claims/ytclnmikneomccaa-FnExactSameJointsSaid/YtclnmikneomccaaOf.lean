/- Lists of numbers that own their block: read, kept, marked. -/
import Derived.Test.YtclnmikneomccaaVr
namespace Go.Proofs.Ytclnmikneomccaa
open Go.RowKit
set_option linter.unusedVariables false
structure OwF (lo hi : Nat) (w : World) (g n : Nat) (f : Nat → Int) : Prop where
  lo : lo ≤ g
  hi : g < hi
  seg : Seg w g 2 0 n (fun i => .int .i64 (f i))
theorem OwF.rd {lo hi : Nat} {w : World} {g n cap : Nat} {f : Nat → Int} (h : OwF lo hi w g n f) : RdRow w (.slice (some ⟨g, 0, none⟩) n cap) n f := h.seg.rd
theorem OwF.keep {lo hi : Nat} {w w' : World} {g n : Nat} {f : Nat → Int} (h : OwF lo hi w g n f) (hk : Keep lo hi w w') : OwF lo hi w' g n f := ⟨h.lo, h.hi, h.seg.of_block (hk g h.lo h.hi)⟩
theorem markF_any {lo hi : Nat} {w : World} {g n cap : Nat} {f : Nat → Int} (k0 : Int) (h : OwF lo hi w g n f) (h0 : 0 ≤ k0) (h1 : k0 ≤ 100000000) (hn : n ≤ 1048576) :
    Calls Try.prog 57 #[.slice (some ⟨g, 0, none⟩) n cap, .int .i64 k0] w fun e w' => e = .returned (.int .i64 (k0 + n)) ∧ Within lo hi w w' := by
  refine (markS_some _ _ _ _ _ _ _ h0 (by omega) h.seg).mono ?_
  rintro e w1 ⟨rfl, hm1, hw1, hz1⟩
  exact ⟨rfl, hw1.mono h.lo h.hi⟩
end Go.Proofs.Ytclnmikneomccaa
