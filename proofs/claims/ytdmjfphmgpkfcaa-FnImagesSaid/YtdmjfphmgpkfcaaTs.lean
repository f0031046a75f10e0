/- Rays near the axis: the specification. -/
import Derived.Test.YtdmjfphmgpkfcaaTb
import Derived.Handy
import Derived.Deep.RegionHeld3
import Derived.Deep.DeepCutAuto
import Derived.Deep.RegionLaw
namespace Go.Proofs.Ytdmjfphmgpkfcaa
open Go.RowKit
set_option linter.unusedVariables false
set_option linter.unusedSimpArgs false
/-- All that was there is as it was. -/
def Fro (a b : World) : Prop := Below a.heap.size a b
theorem Fro.later {a b c : World} (h : Fro a b) (k : Below b.heap.size b c) : Fro a c := Below.trans h (k.mono (Below.size h))
/-- The list of rays that a call has built. -/
def OwR (w : World) (base : Nat) (v : Value) (n : Nat) (F : Nat → Ry) : Prop := w.ownsRow base 70 4 v n (flat (fun i => rrow (F i)) n)
theorem OwR.later {w w' : World} {base n : Nat} {v : Value} {F : Nat → Ry} (h : OwR w base v n F) (b : Below w.heap.size w w') : OwR w' base v n F := owns_later h b
theorem OwR.drew {w : World} {base n : Nat} {v : Value} {F : Nat → Ry} (h : OwR w base v n F) : OwR w.drew base v n F := h
theorem OwR.set {w : World} {base n c j : Nat} {v x : Value} {F : Nat → Ry} (h : OwR w base v n F) (hc : c < base) : OwR (w.setCell ⟨c, j, none⟩ x) base v n F := by
  obtain ⟨h0, h | ⟨g, cap, cur, hv, hg, hh, r⟩⟩ := h
  · exact ⟨h0, Or.inl h⟩
  · exact ⟨h0, Or.inr ⟨g, cap, cur, hv, hg, (Below.heap_setCell _ _ _ _ (by simp; omega)).trans hh, r⟩⟩
theorem OwR.grew {w w' : World} {base n : Nat} {v : Value} {F : Nat → Ry} (h : OwR w base v n F) (r : Nat) (b : But r w.heap.size w w') (hr : r < base) : OwR w' base v n F := by
  obtain ⟨h0, h | ⟨g, cap, cur, hv, hg, hh, q⟩⟩ := h
  · exact ⟨h0, Or.inl h⟩
  · exact ⟨h0, Or.inr ⟨g, cap, cur, hv, hg, (b.block g (Array.getElem?_eq_some_iff.1 hh).1 (by omega)).trans hh, q⟩⟩
theorem OwR.seg {w : World} {base n : Nat} {v : Value} {F : Nat → Ry} (h : OwR w base v n F) : OwV 70 4 base w.heap.size w v n (fun i j => rc (F i) j) := by
  obtain ⟨hl, h | ⟨g, cap, cur, hv, hg, hh, h1, h2, h3, h4⟩⟩ := h
  · refine Or.inl ⟨h.1, ?_⟩
    have := flat_len (F := fun i => rrow (F i)) (m := 4) (fun i => rfl) n
    rw [h.2] at this
    simp at this
    omega
  · refine Or.inr ⟨g, cap, hv, hg, (Array.getElem?_eq_some_iff.1 hh).1, cur, hh, fun i hi j hj => ?_⟩
    have h5 := flat_at (F := fun i => rrow (F i)) (m := 4) (fun i => rfl) (n := n) hi hj
    rw [← h4, List.getElem?_take_of_lt (by omega), Array.getElem?_toList] at h5
    rw [h5]
    match j, hj with
    | 0, _ => rfl
    | 1, _ => rfl
    | 2, _ => rfl
    | 3, _ => rfl
def tcO : Bool → Int
  | true => 0
  | false => 3
def tnO (k : Bool) (n : Nat) : Nat := match k with
  | true => n + 1
  | false => 0
theorem RdP.at {w wr : World} {b off n : Nat} {G : Nat → Pt} (h : RdP w b off n G) (hb : Below w.heap.size w wr) {k : Nat} (hk : k < n) : wr.cell? ⟨b, off + k * 3, none⟩ = some (.int .i64 (G k).k) ∧ wr.cell? ⟨b, off + k * 3 + 1, none⟩ = some (.int .i64 (G k).x.n) ∧ wr.cell? ⟨b, off + k * 3 + 2, none⟩ = some (.int .i64 (G k).x.d) := (h.later hb (Nat.le_refl _)) k hk
end Go.Proofs.Ytdmjfphmgpkfcaa
