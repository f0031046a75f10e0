/- A path's beginning. -/
import Derived.Test.YtelejihgechmgaaOe
namespace Go.Proofs.Ytelejihgechmgaa
open Go.RowKit
set_option linter.unusedVariables false
set_option linter.unusedSimpArgs false
theorem owns_low {w : World} {lo lo' m n : Nat} {t : TypeId} {v : Value} {xs : List Value} (h : w.ownsRow lo t m v n xs) (hl : lo' ≤ lo) : w.ownsRow lo' t m v n xs := by
  obtain ⟨h0, h1 | ⟨g, cap, cur, hv, hg, r⟩⟩ := h
  · exact ⟨h0, Or.inl h1⟩
  · exact ⟨h0, Or.inr ⟨g, cap, cur, hv, Nat.le_trans hl hg, r⟩⟩
def Wst (w2 : World) (g d cp : Nat) (m : Int) : World := (((w2.alloc (.cells #[.slice (some ⟨g, 0, none⟩) d cp] 24)).alloc (.cells #[.int .i64 m] 2)).alloc (.cells #[.int .i64 0, .slice (some ⟨w2.heap.size, 0, none⟩) 1 1, .slice (some ⟨w2.heap.size + 1, 0, none⟩) 1 1] 55))
theorem Go3.start {W1 w2 : World} {lo rb g d cp : Nat} {y : Mt.Pnt} {m : Int} (hR : Blk W1 rb #[.int .i64 0, .slice none 0 0, .slice none 0 0] 55) (hlr : lo ≤ rb) (hb : Below W1.heap.size W1 w2) (hg : W1.heap.size ≤ g) (hg2 : g < w2.heap.size) (hs : Seg w2 g 2 0 d (fun j => .int .i64 (y j))) :
    Go3 (Wst w2 g d cp m) lo rb (w2.heap.size + 1 + 1) (.slice (some ⟨w2.heap.size, 0, none⟩) 1 1) (.slice (some ⟨w2.heap.size + 1, 0, none⟩) 1 1) (fun _ => g) (fun _ => cp) d [y] [m] ∧ Below lo W1 (Wst w2 g d cp m) := by
  have hlo : lo ≤ W1.heap.size := by have := hR.lt; omega
  have hz := hb.size
  have hrl := hR.lt
  have t0 : (w2.alloc (.cells #[.slice (some ⟨g, 0, none⟩) d cp] 24)).ownsRow lo 24 1 (.slice (some ⟨w2.heap.size, 0, none⟩) 1 1) 1 [.slice (some ⟨g, 0, none⟩) d cp] := owns_low (owns_one w2 24 (.slice (some ⟨g, 0, none⟩) d cp)) (by omega)
  have hsz : (w2.alloc (.cells #[.slice (some ⟨g, 0, none⟩) d cp] 24)).heap.size = w2.heap.size + 1 := by simp
  have t1 := Ol.one (w2.alloc (.cells #[.slice (some ⟨g, 0, none⟩) d cp] 24)) m
  rw [hsz] at t1
  have B : ∀ o1 o2 o3, Below lo W1 (((w2.alloc o1).alloc o2).alloc o3) := fun o1 o2 o3 => (((hb.mono hlo).alloc (by omega) _).alloc (by simp; omega) _).alloc (by simp; omega) _
  unfold Wst
  refine ⟨⟨Pth.one ((t0.alloc _).alloc _) ((t1.low (by omega)).later ((Below.refl _ _).alloc (Nat.le_refl _) _)) (((hs.alloc _).alloc _).alloc _) (by omega) ?_, Blk.new (by simp), (((hR.old hb).alloc _).alloc _).alloc _, by omega, by omega, hlr⟩, B _ _ _⟩
  intro e
  simp [Value.ownBlock] at e
  omega
theorem run_pos {A : Nat → Mt.Am} {n d r : Nat} {ps : List Mt.Pnt} {s : Int} (h : 0 < s) : Mt.run A n d (r + 1) ps s = Mt.run A n d r (Mt.rnd A n d ps s d) (if (Mt.rnd A n d ps s d).length = ps.length then s / 2 else s) := by
  show (if 0 < s then _ else _) = _
  rw [if_pos h]
end Go.Proofs.Ytelejihgechmgaa
