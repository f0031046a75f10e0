/- Results with a code and rows, or a code and a list: compared, marked, held: contracts. -/
import Derived.Test.YtclnmikneomccaaEqs
import Derived.Test.YtclnmikneomccaaMarks
namespace Go.Proofs.Ytclnmikneomccaa
open Go.RowKit
set_option linter.unusedVariables false
/-- Block b holds two values. -/
def V2 (w : World) (b : Nat) (t : TypeId) (x y : Value) : Prop := w.heap[b]? = some (.cells #[x, y] t (0, 0))
theorem V2.c0 {w : World} {b : Nat} {t : TypeId} {x y : Value} (h : V2 w b t x y) : w.cell? ⟨b, 0, none⟩ = some x := by unfold V2 at h; simp [World.cell?, h]
theorem V2.c1 {w : World} {b : Nat} {t : TypeId} {x y : Value} (h : V2 w b t x y) : w.cell? ⟨b, 1, none⟩ = some y := by unfold V2 at h; simp [World.cell?, h]
theorem V2.new (w : World) (t : TypeId) (x y : Value) : V2 (w.alloc (.cells #[x, y] t)) w.heap.size t x y := heap_alloc_new _ _
/-- The blocks from lo on, below hi, are as they were. -/
def Keep (lo hi : Nat) (w w' : World) : Prop := ∀ k, lo ≤ k → k < hi → w'.heap[k]? = w.heap[k]?
theorem Keep.trans {lo hi : Nat} {a b c : World} (h : Keep lo hi a b) (k : Keep lo hi b c) : Keep lo hi a c := fun i h1 h2 => (k i h1 h2).trans (h i h1 h2)
theorem Keep.of {B lo hi : Nat} {w w' : World} (h : Below B w w') (hB : hi ≤ B) : Keep lo hi w w' := fun k _ hk => h.block k (by omega)
theorem Keep.refl (lo hi : Nat) (w : World) : Keep lo hi w w := fun _ _ _ => rfl
theorem Keep.over {lo hi lo' hi' : Nat} {w w' : World} (h : Within lo' hi' w w') (h1 : hi' ≤ lo) (h2 : hi ≤ w.heap.size) : Keep lo hi w w' := fun k hk hk2 => h.above k (by omega) (by omega)
theorem Keep.under {lo hi lo' hi' : Nat} {w w' : World} (h : Within lo' hi' w w') (h1 : hi ≤ lo') : Keep lo hi w w' := fun k _ hk2 => h.below.block k (by omega)
theorem V2.keep {w w' : World} {b lo hi : Nat} {t : TypeId} {x y : Value} (h : V2 w b t x y) (hk : Keep lo hi w w') (h1 : lo ≤ b) (h2 : b < hi) : V2 w' b t x y := (hk b h1 h2).trans h
theorem V2.later {w w' : World} {b B : Nat} {t : TypeId} {x y : Value} (h : V2 w b t x y) (hb : Below B w w') (h2 : b < B) : V2 w' b t x y := (hb.block b h2).trans h
theorem RdMat.shape {w : World} {v : Value} {n : Nat} {L : Nat → Nat} {F : Rm.Mx} (h : RdMat w v n L F) : ∃ ao cap, v = .slice ao n cap := by
  rcases h with ⟨ao, cap, rfl, rfl⟩ | ⟨b, off, cap, vs, rfl, _⟩
  · exact ⟨ao, cap, rfl⟩
  · exact ⟨_, cap, rfl⟩
theorem RdRow.shape {w : World} {v : Value} {n : Nat} {f : Nat → Int} (h : RdRow w v n f) : ∃ ao cap, v = .slice ao n cap := by
  rcases h with ⟨ao, cap, rfl, rfl⟩ | ⟨b, off, cap, rfl, _⟩
  · exact ⟨ao, cap, rfl⟩
  · exact ⟨_, cap, rfl⟩
theorem Sm_const (n : Nat) : ∀ k, Sm (fun _ => n) k = k * n
  | 0 => by simp [Sm]
  | k + 1 => by rw [Sm, Sm_const n k, Nat.succ_mul]
theorem sq_le {n : Nat} (h : n ≤ 1000) : Sm (fun _ => n) n ≤ 1000000 := by
  rw [Sm_const]
  exact Nat.mul_le_mul h h

/-- A result with a code, to be read: a fault and nothing else, or 0 and what is told. -/
def OutR (w : World) (c : Int) (v : Value) (n : Nat) (F : Rm.Mx) : Prop := (c ≠ 0 ∧ v = .slice none 0 0) ∨ (c = 0 ∧ RdMat w v n (fun _ => n) F)
theorem OutR.later {w w' : World} {c : Int} {v : Value} {n : Nat} {F : Rm.Mx} (h : OutR w c v n F) (hb : Below w.heap.size w w') : OutR w' c v n F := by
  rcases h with h | ⟨h, h1⟩
  · exact Or.inl h
  · exact Or.inr ⟨h, h1.later hb⟩
/-- A result with a code that owns its memory, from lo on, below hi. -/
def OwnR (lo hi : Nat) (w : World) (c : Int) (v : Value) (n : Nat) (F : Rm.Mx) : Prop := (c ≠ 0 ∧ v = .slice none 0 0) ∨ (c = 0 ∧ ∃ m : Lie, v = .slice (some ⟨m.b, 0, none⟩) n m.cap ∧ Mat lo hi w m n (fun _ => n) F)
theorem OwnR.keep {lo hi : Nat} {w w' : World} {c : Int} {v : Value} {n : Nat} {F : Rm.Mx} (h : OwnR lo hi w c v n F) (hk : Keep lo hi w w') : OwnR lo hi w' c v n F := by
  rcases h with h | ⟨h, m, rfl, hm⟩
  · exact Or.inl h
  · exact Or.inr ⟨h, m, rfl, hm.keep hk⟩
theorem OwnR.rd {lo hi : Nat} {w : World} {c : Int} {v : Value} {n : Nat} {F : Rm.Mx} (h : OwnR lo hi w c v n F) : OutR w c v n F := by
  rcases h with h | ⟨h, m, rfl, hm⟩
  · exact Or.inl h
  · exact Or.inr ⟨h, hm.rd⟩
/-- A result that has been marked from 1 on, the next mark being r. -/
def MkdR (lo hi : Nat) (w : World) (c : Int) (v : Value) (n : Nat) (r : Int) : Prop := (c ≠ 0 ∧ v = .slice none 0 0 ∧ r = 1) ∨ (c = 0 ∧ r = 1 + (Sm (fun _ => n) n : Nat) ∧ ∃ m : Lie, v = .slice (some ⟨m.b, 0, none⟩) n m.cap ∧ Mat lo hi w m n (fun _ => n) (fun i j => 1 + (Sm (fun _ => n) i : Nat) + j))
theorem MkdR.keep {lo hi : Nat} {w w' : World} {c : Int} {v : Value} {n : Nat} {r : Int} (h : MkdR lo hi w c v n r) (hk : Keep lo hi w w') : MkdR lo hi w' c v n r := by
  rcases h with h | ⟨h, h0, m, rfl, hm⟩
  · exact Or.inl h
  · exact Or.inr ⟨h, h0, m, rfl, hm.keep hk⟩
theorem MkdR.pos {lo hi : Nat} {w : World} {c : Int} {v : Value} {n : Nat} {r : Int} (h : MkdR lo hi w c v n r) : 0 ≤ r := by
  rcases h with ⟨_, _, rfl⟩ | ⟨_, rfl, _⟩ <;> omega
/-- A result with a code, to be read: a fault and nothing else, or 0 and what is told. -/
def OutL (w : World) (c : Int) (v : Value) (n : Nat) (F : Nat → Int) : Prop := (c ≠ 0 ∧ v = .slice none 0 0) ∨ (c = 0 ∧ RdRow w v n F)
theorem OutL.later {w w' : World} {c : Int} {v : Value} {n : Nat} {F : Nat → Int} (h : OutL w c v n F) (hb : Below w.heap.size w w') : OutL w' c v n F := by
  rcases h with h | ⟨h, h1⟩
  · exact Or.inl h
  · exact Or.inr ⟨h, h1.later hb⟩
/-- A result with a code that owns its memory, from lo on, below hi. -/
def OwnL (lo hi : Nat) (w : World) (c : Int) (v : Value) (n : Nat) (F : Nat → Int) : Prop := (c ≠ 0 ∧ v = .slice none 0 0) ∨ (c = 0 ∧ ∃ g cap, v = .slice (some ⟨g, 0, none⟩) n cap ∧ lo ≤ g ∧ g < hi ∧ Seg w g 2 0 n (fun i : Nat => .int .i64 (F i)))
theorem OwnL.keep {lo hi : Nat} {w w' : World} {c : Int} {v : Value} {n : Nat} {F : Nat → Int} (h : OwnL lo hi w c v n F) (hk : Keep lo hi w w') : OwnL lo hi w' c v n F := by
  rcases h with h | ⟨h, g, cap, rfl, g1, g2, hm⟩
  · exact Or.inl h
  · exact Or.inr ⟨h, g, cap, rfl, g1, g2, hm.of_block (hk g g1 g2)⟩
theorem OwnL.rd {lo hi : Nat} {w : World} {c : Int} {v : Value} {n : Nat} {F : Nat → Int} (h : OwnL lo hi w c v n F) : OutL w c v n F := by
  rcases h with h | ⟨h, g, cap, rfl, g1, g2, hm⟩
  · exact Or.inl h
  · exact Or.inr ⟨h, hm.rd⟩
/-- A result that has been marked from 1 on, the next mark being r. -/
def MkdL (lo hi : Nat) (w : World) (c : Int) (v : Value) (n : Nat) (r : Int) : Prop := (c ≠ 0 ∧ v = .slice none 0 0 ∧ r = 1) ∨ (c = 0 ∧ r = 1 + (n : Nat) ∧ ∃ g cap, v = .slice (some ⟨g, 0, none⟩) n cap ∧ lo ≤ g ∧ g < hi ∧ Seg w g 2 0 n (fun i : Nat => .int .i64 (1 + i)))
theorem MkdL.keep {lo hi : Nat} {w w' : World} {c : Int} {v : Value} {n : Nat} {r : Int} (h : MkdL lo hi w c v n r) (hk : Keep lo hi w w') : MkdL lo hi w' c v n r := by
  rcases h with h | ⟨h, h0, g, cap, rfl, g1, g2, hm⟩
  · exact Or.inl h
  · exact Or.inr ⟨h, h0, g, cap, rfl, g1, g2, hm.of_block (hk g g1 g2)⟩
theorem MkdL.pos {lo hi : Nat} {w : World} {c : Int} {v : Value} {n : Nat} {r : Int} (h : MkdL lo hi w c v n r) : 0 ≤ r := by
  rcases h with ⟨_, _, rfl⟩ | ⟨_, rfl, _⟩ <;> omega
end Go.Proofs.Ytclnmikneomccaa
