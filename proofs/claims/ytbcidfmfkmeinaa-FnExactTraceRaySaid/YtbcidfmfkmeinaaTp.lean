/- A ray through a list of faces, plainly, by classes of floats. -/
import Derived.Test.YtbcidfmfkmeinaaHp
import Derived.Test.YtbcidfmfkmeinaaLi
namespace Go.Proofs.Ytbcidfmfkmeinaa
open Go.RowKit Fl
set_option linter.unusedVariables false
/-- A ray ahead of a face, the index there, the path so far. -/
structure Tr where
  ray : Nat → Option Nat
  idx : Option Nat
  path : Option Nat
/-- Is a point outside a face? -/
def outC (G : Nat → Option Nat) (h : Hit) : Bool := gtO (G 4) zO && gtO (sqr (h.pt 0) (h.pt 1)) (opC .mul (G 4) (G 4))
/-- What stops a ray at a face: a code, or none and the hit and the ray behind it. -/
def passC (G : Nat → Option Nat) (h : Option Hit) (i : Option Nat) : Int × (Nat → Option Nat) :=
  match h with
  | none => (4, fun _ => zO)
  | some h => if outC G h then (3, fun _ => zO) else (codeOf (bendC h.pt h.nr i (G 3)), rayOf (bendC h.pt h.nr i (G 3)))
def afterC (G r : Nat → Option Nat) : Nat → Option Nat := r6 (r 0) (r 1) (opC .sub (r 2) (G 2)) (r 3) (r 4) (r 5)
def nextC (G : Nat → Option Nat) (s : Tr) : Tr :=
  ⟨afterC G (passC G (meetC G s.ray) s.idx).2, G 3, opC .add s.path (opC .mul s.idx (hOf (meetC G s.ray)).len)⟩
def stC (G : Nat → Nat → Option Nat) (A : Nat → Option Nat) : Nat → Tr
  | 0 => ⟨A, oneO, zO⟩
  | k + 1 => nextC (G k) (stC G A k)
def codeAt (G : Nat → Nat → Option Nat) (A : Nat → Option Nat) (k : Nat) : Int := (passC (G k) (meetC (G k) (stC G A k).ray) (stC G A k).idx).1
def rayAt (G : Nat → Nat → Option Nat) (A : Nat → Option Nat) (k : Nat) : Nat → Option Nat := (passC (G k) (meetC (G k) (stC G A k).ray) (stC G A k).idx).2
/-- The ray has passed k faces. -/
def Clear (G : Nat → Nat → Option Nat) (A : Nat → Option Nat) (k : Nat) : Prop := ∀ i, i < k → codeAt G A i = 0
/-- What is answered: code, place, path, how many rays, and the rays. -/
structure Ans where
  code : Int
  at' : Int
  path : Option Nat
  n : Nat
/-- The answer, told of n faces. -/
def Tells9 (G : Nat → Nat → Option Nat) (A : Nat → Option Nat) (n : Nat) (r : Ans) : Prop :=
  (40 < n ∧ r = ⟨2, 0, zO, 0⟩) ∨ (n ≤ 40 ∧ Clear G A n ∧ r = ⟨0, 0, (stC G A n).path, n⟩) ∨ (n ≤ 40 ∧ ∃ k, k < n ∧ Clear G A k ∧ codeAt G A k ≠ 0 ∧ r = ⟨codeAt G A k, k, zO, 0⟩)
theorem tells_one {G : Nat → Nat → Option Nat} {A : Nat → Option Nat} {n : Nat} {r s : Ans} (h : Tells9 G A n r) (k : Tells9 G A n s) : r = s := by
  rcases h with ⟨h1, rfl⟩ | ⟨h1, h2, rfl⟩ | ⟨h1, a, ha, h2, h3, rfl⟩
  · rcases k with ⟨k1, rfl⟩ | ⟨k1, k2, rfl⟩ | ⟨k1, b, hb, k2, k3, rfl⟩
    · rfl
    · omega
    · omega
  · rcases k with ⟨k1, rfl⟩ | ⟨k1, k2, rfl⟩ | ⟨k1, b, hb, k2, k3, rfl⟩
    · omega
    · rfl
    · exact absurd (h2 b hb) k3
  · rcases k with ⟨k1, rfl⟩ | ⟨k1, k2, rfl⟩ | ⟨k1, b, hb, k2, k3, rfl⟩
    · omega
    · exact absurd (k2 a ha) h3
    · obtain rfl : a = b := by
        rcases Nat.lt_trichotomy a b with c | c | c
        · exact absurd (k2 a c) h3
        · exact c
        · exact absurd (h2 b c) k3
      rfl
/-- A list of rays that is answered: none, or a block's own row. -/
def OwR (W : World) (lo : Nat) (v : Value) (n : Nat) (R : Nat → Nat → Nat) : Prop :=
  (n = 0 ∧ ∃ ao cap, v = .slice ao 0 cap) ∨ ∃ g cap, v = .slice (some ⟨g, 0, none⟩) n cap ∧ lo ≤ g ∧ SegV W g 33 n 6 (fun i j => fcl (R i) j)
abbrev Tv (c a : Int) (p : Nat) (v : Value) : Value := .agg #[.int .i64 c, .int .i64 a, .float .f64 p, v]
def TV (fn : FuncId) (args : Array Value) (w : World) (G : Nat → Nat → Option Nat) (A : Nat → Option Nat) (n : Nat) : Prop :=
  Calls Try.prog fn args w fun e w' => ∃ (r : Ans) (p : Nat) (v : Value) (R : Nat → Nat → Nat), e = .returned (Tv r.code r.at' p v) ∧ (Tells9 G A n r ∧ Fc p r.path ∧ OwR w' w.heap.size v r.n R ∧ ∀ i, i < r.n → Rc (R i) (rayAt G A i)) ∧ Below w.heap.size w w'
theorem Blk.grown {W W' : World} {b : Nat} {cs : Array Value} {t : TypeId} {ob : Option Nat} (h : Blk W b cs t) (g : W.grownBy W' ob) (hne : some b ≠ ob) : Blk W' b cs t := (g.block b h.lt hne).trans h
theorem info27 : (Try.prog.info? 33).map (fun i => (i.zero, i.size, i.bytes)) = some (some (.agg #[.float .f64 0, .float .f64 0, .float .f64 0, .float .f64 0, .float .f64 0, .float .f64 0]), 6, 48) := by kernel_rfl
theorem flat_sameR {F G : Nat → List Value} : ∀ n, (∀ i, i < n → F i = G i) → flat F n = flat G n
  | 0, _ => rfl
  | n + 1, h => by rw [flat_succ, flat_succ, flat_sameR n (fun i hi => h i (by omega)), h n (by omega)]
def rrow (R : Nat → Nat → Nat) (i : Nat) : List Value := [.float .f64 (R i 0), .float .f64 (R i 1), .float .f64 (R i 2), .float .f64 (R i 3), .float .f64 (R i 4), .float .f64 (R i 5)]
def addQ (R : Nat → Nat → Nat) (k : Nat) (g : Nat → Nat) : Nat → Nat → Nat := fun i => if i = k then g else R i
theorem rrow_add (R : Nat → Nat → Nat) (k : Nat) (g : Nat → Nat) : flat (rrow R) k ++ [.float .f64 (g 0), .float .f64 (g 1), .float .f64 (g 2), .float .f64 (g 3), .float .f64 (g 4), .float .f64 (g 5)] = flat (rrow (addQ R k g)) (k + 1) := by
  rw [flat_succ]
  congr 1
  · apply flat_sameR
    intro i hi
    have : i ≠ k := by omega
    simp [rrow, addQ, this]
  · simp [rrow, addQ]
theorem rc_add {R : Nat → Nat → Nat} {k : Nat} {g : Nat → Nat} {A : Nat → Nat → Option Nat} (h : ∀ i, i < k → Rc (R i) (A i)) (hg : Rc g (A k)) : ∀ i, i < k + 1 → Rc (addQ R k g i) (A i) := by
  intro i hi
  by_cases e : i = k
  · subst e; simpa [addQ] using hg
  · simp only [addQ, e, if_false]; exact h i (by omega)
theorem clear_succ {G : Nat → Nat → Option Nat} {A : Nat → Option Nat} {k : Nat} (h : Clear G A k) (hk : codeAt G A k = 0) : Clear G A (k + 1) := by
  intro i hi
  by_cases e : i = k
  · subst e; exact hk
  · exact h i (by omega)
end Go.Proofs.Ytbcidfmfkmeinaa
