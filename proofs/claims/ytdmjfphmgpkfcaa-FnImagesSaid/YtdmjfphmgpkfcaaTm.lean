/- Rays near the axis, step by step, plainly; lists of rays that a call owns, compared, marked, looked for marks; marks of parts. -/
import Derived.Test.YtdmjfphmgpkfcaaPq
import Derived.Test.YtdmjfphmgpkfcaaPr
import Derived.Test.YtdmjfphmgpkfcaaPu
import Derived.Test.YtdmjfphmgpkfcaaSd
import Derived.Test.YtdmjfphmgpkfcaaMr
import Derived.Handy
import Derived.Deep.RegionHeld3
namespace Go.Proofs.Ytdmjfphmgpkfcaa
open Go.RowKit
set_option linter.unusedVariables false
set_option linter.unusedSimpArgs false
theorem op_right' {a b c d n m : Int} (hm : m ≠ 0) (h : (opC a b c d n m == 0) = true) : rightB (opN a b c d n m) (opD a b c d n m) = true := by
  unfold opC at h
  unfold opN opD
  by_cases e : (rightB a b && rightB c d) = true
  · rw [if_pos e] at h
    rw [if_pos e, if_pos e]
    unfold resC at h
    unfold resN resD
    by_cases l : lowB n m = true
    · rw [if_pos l, if_pos l]
      have := low_fault n m hm
      rw [if_pos l] at this
      unfold fault at this
      by_cases q : rightB (Fm.rN n m) (Fm.rD n m) = true
      · exact q
      · rw [if_neg q] at this; omega
    · rw [if_neg l] at h; simp at h
  · rw [if_neg e] at h; simp at h
theorem den_ne {x y : Q} (hx : x.ok = true) (hy : y.ok = true) : x.d * y.d ≠ 0 := mul_ne (by have := (right_t hx).1; omega) (by have := (right_t hy).1; omega)
theorem add_right {x y : Q} (h : addK x y = true) : (addQ x y).ok = true := op_right' (den_ne (addK_ok h).1 (addK_ok h).2) h
theorem sub_right {x y : Q} (h : subK x y = true) : (subQ x y).ok = true := op_right' (den_ne (subK_ok h).1 (subK_ok h).2) h
/-- A ray behind a part. -/
def trG (p : Pt) (r : Ry) : Ry := if p.k = 1 then ⟨addQ r.Y (mulQ p.x r.U), r.U⟩ else ⟨r.Y, subQ r.U (mulQ p.x r.Y)⟩
def trK (p : Pt) (r : Ry) : Bool := if p.k = 1 then mulK p.x r.U && addK r.Y (mulQ p.x r.U) else mulK p.x r.Y && subK r.U (mulQ p.x r.Y)
def tr (G : Nat → Pt) (r : Ry) : Nat → Ry
  | 0 => r
  | i + 1 => trG (G i) (tr G r i)
def trB (G : Nat → Pt) (r : Ry) : Nat → Bool
  | 0 => true
  | i + 1 => trB G r i && trK (G i) (tr G r i)
theorem ry_ok {r : Ry} : r.ok = (r.Y.ok && r.U.ok) := rfl
theorem trG_ok {p : Pt} {r : Ry} (h : r.ok = true) (k : trK p r = true) : (trG p r).ok = true := by
  rw [ry_ok, Bool.and_eq_true] at h
  unfold trK at k
  unfold trG
  by_cases e : p.k = 1
  · rw [if_pos e] at k ⊢
    rw [Bool.and_eq_true] at k
    rw [ry_ok, Bool.and_eq_true]
    exact ⟨add_right k.2, h.2⟩
  · rw [if_neg e] at k ⊢
    rw [Bool.and_eq_true] at k
    rw [ry_ok, Bool.and_eq_true]
    exact ⟨h.1, sub_right k.2⟩
theorem tr_ok {G : Nat → Pt} {r : Ry} (h : r.ok = true) : ∀ i, trB G r i = true → (tr G r i).ok = true
  | 0, _ => h
  | i + 1, k => by
    unfold trB at k
    rw [Bool.and_eq_true] at k
    exact trG_ok (tr_ok h i k.1) k.2
theorem trB_no {G : Nat → Pt} {r : Ry} {i n : Nat} (hi : i ≤ n) (h : trB G r i = false) : trB G r n = false := by
  induction n with
  | zero => obtain rfl : i = 0 := by omega
            exact h
  | succ n ih =>
    by_cases e : i = n + 1
    · subst e; exact h
    · unfold trB; rw [ih (by omega)]; rfl
def trC (G : Nat → Pt) (n : Nat) (r : Ry) : Int := if lC G n = 0 then (if r.ok = true then (if trB G r n = true then 0 else 3) else 1) else lC G n
def rc (r : Ry) : Nat → Value
  | 0 => .int .i64 r.Y.n
  | 1 => .int .i64 r.Y.d
  | 2 => .int .i64 r.U.n
  | _ => .int .i64 r.U.d
def rrow (r : Ry) : List Value := [.int .i64 r.Y.n, .int .i64 r.Y.d, .int .i64 r.U.n, .int .i64 r.U.d]
/-- Stores between lo and hi alone, and new blocks. -/
structure Within (lo hi : Nat) (w w' : World) : Prop where
  below : Below lo w w'
  above : ∀ k, hi ≤ k → k < w.heap.size → w'.heap[k]? = w.heap[k]?
theorem Within.refl (lo hi : Nat) (w : World) : Within lo hi w w := ⟨Below.refl _ _, fun _ _ _ => rfl⟩
theorem Within.trans {lo hi : Nat} {a b c : World} (h : Within lo hi a b) (k : Within lo hi b c) : Within lo hi a c :=
  ⟨h.below.trans k.below, fun i h1 h2 => (k.above i h1 (Nat.lt_of_lt_of_le h2 h.below.size)).trans (h.above i h1 h2)⟩
theorem Within.setCell {lo hi : Nat} {a w : World} (h : Within lo hi a w) {p : Addr} (h1 : lo ≤ p.block) (h2 : p.block < hi) (u : Value) : Within lo hi a (w.setCell p u) :=
  h.trans ⟨(Below.refl _ _).setCell h1 u, fun k hk _ => Below.heap_setCell _ _ _ _ (by omega)⟩
theorem Within.mono {lo hi lo' hi' : Nat} {a w : World} (h : Within lo hi a w) (h1 : lo' ≤ lo) (h2 : hi ≤ hi') : Within lo' hi' a w := ⟨h.below.mono h1, fun k hk hs => h.above k (by omega) hs⟩
theorem Within.later {lo hi : Nat} {a w w' : World} (h : Within lo hi a w) (b : Below w.heap.size w w') (hl : lo ≤ w.heap.size) : Within lo hi a w' :=
  ⟨h.below.trans (b.mono hl), fun k h1 h2 => (b.block k (Nat.lt_of_lt_of_le h2 h.below.size)).trans (h.above k h1 h2)⟩
theorem Blk.under {w w' : World} {b : Nat} {cs : Array Value} {t : TypeId} (h : Blk w b cs t) {a c : Nat} (k : Within a c w w') (hh : b < a ∨ c ≤ b) : Blk w' b cs t := by
  rcases hh with hh | hh
  · exact (k.below.block b hh).trans h
  · exact (k.above b hh h.lt).trans h
/-- v is nil, or a list of n values of m cells in a block from lo on, below hi. -/
def OwV (t m : Nat) (lo hi : Nat) (w : World) (v : Value) (n : Nat) (f : Nat → Nat → Value) : Prop :=
  (v = .slice none 0 0 ∧ n = 0) ∨ ∃ g cap, v = .slice (some ⟨g, 0, none⟩) n cap ∧ lo ≤ g ∧ g < hi ∧ SegV w g t n m f
namespace OwV
variable {t m lo hi : Nat} {w w' : World} {v : Value} {n : Nat} {f : Nat → Nat → Value}
theorem later (h : OwV t m lo hi w v n f) (b : Below w.heap.size w w') : OwV t m lo hi w' v n f := by
  rcases h with h | ⟨g, cap, rfl, h1, h2, h3⟩
  · exact Or.inl h
  · exact Or.inr ⟨g, cap, rfl, h1, h2, h3.below b⟩
theorem under (h : OwV t m lo hi w v n f) {a c : Nat} (b : Within a c w w') (hh : hi ≤ a ∨ c ≤ lo) : OwV t m lo hi w' v n f := by
  rcases h with h | ⟨g, cap, rfl, h1, h2, h3⟩
  · exact Or.inl h
  · refine Or.inr ⟨g, cap, rfl, h1, h2, h3.of_block ?_⟩
    rcases hh with hh | hh
    · exact b.below.block g (by omega)
    · exact b.above g (by omega) h3.lt
theorem form (h : OwV t m lo hi w v n f) : ∃ ao cap, v = .slice ao n cap := by
  rcases h with ⟨rfl, rfl⟩ | ⟨g, cap, rfl, _⟩
  · exact ⟨none, 0, rfl⟩
  · exact ⟨_, cap, rfl⟩
end OwV
/-- The marks from k0 on, m of them an element. -/
def mkv (m : Nat) (k0 : Int) (i j : Nat) : Value := .int .i64 (k0 + (m * i + j : Nat))
abbrev Pl (c : Int) (v : Value) : Value := .agg #[.int .i64 c, v]
/-- What is answered: a code and a list of rays in memory of its own. -/
def PX (fn : FuncId) (args : Array Value) (w : World) (c : Int) (n : Nat) (G : Nat → Ry) : Prop :=
  Calls Try.prog fn args w fun e w' => ∃ v, e = .returned (Pl c v) ∧ OwV 70 4 w.heap.size w'.heap.size w' v n (fun i j => rc (G i) j) ∧ Below w.heap.size w w'
end Go.Proofs.Ytdmjfphmgpkfcaa
