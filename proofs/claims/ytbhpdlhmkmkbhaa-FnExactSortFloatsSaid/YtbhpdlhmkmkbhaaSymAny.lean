/- Merging two sorted stretches in place, of whatever lengths: a contract. -/
import Derived.Test.YtbhpdlhmkmkbhaaSymGen
namespace Go.Proofs.Ytbhpdlhmkmkbhaa
open Go.RowKit Fl Sr
theorem sym_any (B n P : Nat) (w0 : World) (hP : P ≠ B) (hn : n ≤ 1000000000000) : ∀ d, SymOK B n P w0 d := by
  intro d
  induction d with
  | zero => intro a m b f w h; omega
  | succ d ih =>
    intro a m b f w h hS h1 h2 hb s1 s2
    by_cases c1 : m = a + 1
    · subst c1
      have := sym_low B n a b f P w0 w hS hP hn h2 hb s2
      rw [show (a : Int) + 1 = ((a + 1 : Nat) : Int) by omega] at this
      exact this
    by_cases c2 : b = m + 1
    · subst c2
      have := sym_high B n a m f P w0 w hS hP hn (by omega) hb s1
      rw [show (m : Int) + 1 = ((m + 1 : Nat) : Int) by omega] at this
      exact this
    have I : SymOK B n P w0 (b - a) := fun a' m' b' f' w' h' => ih a' m' b' f' w' (by omega)
    by_cases c3 : (a + b) / 2 < m
    · exact sym_hi B n a m b ((a + b) / 2) f P w0 w hS hP hn (by omega) (by omega) hb (by omega) c3 I s1 s2
    · exact sym_lo B n a m b ((a + b) / 2) f P w0 w hS hP hn (by omega) (by omega) hb (by omega) (by omega) I s1 s2
end Go.Proofs.Ytbhpdlhmkmkbhaa
