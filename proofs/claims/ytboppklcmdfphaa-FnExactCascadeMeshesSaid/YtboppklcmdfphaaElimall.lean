/- The program's elimination: contract. -/
import Derived.Test.YtboppklcmdfphaaElim
import Derived.Test.YtboppklcmdfphaaMarks
import Derived.Deep.DeepCutAuto
namespace Go.Proofs.Ytboppklcmdfphaa
open Go.RowKit
set_option linter.unusedVariables false
def Lie.swap (m : Lie) (c t : Nat) : Lie :=
  { b := m.b, cap := m.cap, bs := fun i => if i = c then m.bs t else if i = t then m.bs c else m.bs i, os := fun i => if i = c then m.os t else if i = t then m.os c else m.os i, cs := fun i => if i = c then m.cs t else if i = t then m.cs c else m.cs i }
theorem swap_row (m : Lie) (wd c t i : Nat) : (m.swap c t).row (fun _ => wd) i = if i = c then m.row (fun _ => wd) t else if i = t then m.row (fun _ => wd) c else m.row (fun _ => wd) i := by
  unfold Lie.row Lie.swap
  by_cases h1 : i = c
  · simp [h1]
  · by_cases h2 : i = t
    · subst h2; simp [h1]
    · simp [h1, h2]
/-- Two rows change their places. -/
theorem Mat.swap {lo hi : Nat} {w w' : World} {m : Lie} {n wd c t : Nat} {F : Rm.Mx} (h : Mat lo hi w m n (fun _ => wd) F) (hc : c < n) (ht : t < n)
    (htop : Seg w' m.b 32 0 n (fun i => if i = c then m.row (fun _ => wd) t else if i = t then m.row (fun _ => wd) c else m.row (fun _ => wd) i)) (hk : ∀ k, k ≠ m.b → w'.heap[k]? = w.heap[k]?) :
    Mat lo hi w' (m.swap c t) n (fun _ => wd) (Rm.swp F c t) := by
  have idx : ∀ i, i < n → ∃ j, j < n ∧ (m.swap c t).bs i = m.bs j ∧ (m.swap c t).os i = m.os j ∧ Rm.swp F c t i = F j ∧ j = (if i = c then t else if i = t then c else i) := fun i hi => by
    by_cases h1 : i = c
    · exact ⟨t, ht, by simp [Lie.swap, h1], by simp [Lie.swap, h1], by simp [Rm.swp, h1], by simp [h1]⟩
    · by_cases h2 : i = t
      · subst h2
        exact ⟨c, hc, by simp [Lie.swap, h1], by simp [Lie.swap, h1], by simp [Rm.swp, h1], by simp [h1]⟩
      · exact ⟨i, hi, by simp [Lie.swap, h1, h2], by simp [Lie.swap, h1, h2], by simp [Rm.swp, h1, h2], by simp [h1, h2]⟩
  refine ⟨htop.congr fun i _ => (swap_row m wd c t i).symm, fun i hi => ?_, h.blo, h.bhi, fun i hi => ?_, fun i hi => ?_, fun i i' hi hi' e => ?_⟩
  · obtain ⟨j, hj, e1, e2, e3, _⟩ := idx i hi
    rw [e1, e2]
    exact ((h.row j hj).of_block (hk _ (Ne.symm (h.bne hj)))).congr fun x _ => by rw [e3]
  · obtain ⟨j, hj, e1, _⟩ := idx i hi
    rw [e1]; exact h.rlo j hj
  · obtain ⟨j, hj, e1, _⟩ := idx i hi
    rw [e1]; exact h.rhi j hj
  · obtain ⟨j, hj, e1, _, _, e4⟩ := idx i hi
    obtain ⟨j', hj', e1', _, _, e4'⟩ := idx i' hi'
    rw [e1, e1'] at e
    have := h.apart j j' hj hj' e
    rw [e4, e4'] at this
    revert this
    by_cases a1 : i = c <;> by_cases a2 : i' = c <;> by_cases a3 : i = t <;> by_cases a4 : i' = t <;> simp_all <;> omega
/-- Where the program's rows stand while they are cleared. -/
def El (lo hi : Nat) (w0 w : World) (b cap n wd : Nat) (A : Rm.Mx) : Prop :=
  ∃ m : Lie, m.b = b ∧ m.cap = cap ∧ (∀ i, i < n → m.os i = 0 ∧ m.cs i = wd) ∧ Mat lo hi w m n (fun _ => wd) A ∧ Within lo hi w0 w ∧ w.heap.size = w0.heap.size
theorem El.congr {lo hi : Nat} {w0 w : World} {b cap n wd : Nat} {A B : Rm.Mx} (h : El lo hi w0 w b cap n wd A) (e : ∀ i j, i < n → j < wd → A i j = B i j) : El lo hi w0 w b cap n wd B := by
  obtain ⟨m, h1, h2, h3, h4, h5⟩ := h
  exact ⟨m, h1, h2, h3, h4.congr e, h5⟩
theorem El.drewN {lo hi : Nat} {w0 w : World} {b cap n wd : Nat} {A : Rm.Mx} (h : El lo hi w0 w b cap n wd A) (q : Nat) : El lo hi w0 (w.drewN q) b cap n wd A := by
  obtain ⟨m, h1, h2, h3, h4, h5, h6⟩ := h
  exact ⟨m, h1, h2, h3, h4.keep fun _ _ _ => rfl, h5.trans ⟨below_drewN (Below.refl _ _) q, fun _ _ _ => rfl⟩, h6⟩
/-- .. two of them changed about, by the two stores in either order. -/
theorem El.swap {lo hi : Nat} {w0 w w' : World} {m : Lie} {cap n wd c t : Nat} {A : Rm.Mx} (h2 : m.cap = cap) (h3 : ∀ i, i < n → m.os i = 0 ∧ m.cs i = wd) (h4 : Mat lo hi w m n (fun _ => wd) A) (h5 : Within lo hi w0 w) (h6 : w.heap.size = w0.heap.size)
    (hc : c < n) (ht : t < n) (hw : w' = (w.setCell ⟨m.b, c, none⟩ (m.row (fun _ => wd) t)).setCell ⟨m.b, t, none⟩ (m.row (fun _ => wd) c)) : El lo hi w0 w' m.b cap n wd (Rm.swp A c t) := by
  subst hw
  have s1 := h4.top.set c hc (m.row (fun _ => wd) t)
  have s2 := s1.set t ht (m.row (fun _ => wd) c)
  simp only [Nat.zero_add] at s2
  refine ⟨m.swap c t, rfl, h2, fun i hi => ?_, h4.swap hc ht (s2.congr fun i _ => ?_) (fun k hk => by rw [Below.heap_setCell _ _ _ _ hk, Below.heap_setCell _ _ _ _ hk]), (h5.setCell h4.blo h4.bhi _).setCell h4.blo h4.bhi _, by simpa using h6⟩
  · simp only [Lie.swap]
    by_cases a1 : i = c
    · simp only [a1, if_true]; exact h3 t ht
    · by_cases a2 : i = t
      · simp only [a2, if_true]
        split
        · exact h3 t ht
        · exact h3 c hc
      · simp only [a1, a2, if_false]; exact h3 i hi
  · by_cases a1 : i = t
    · by_cases a2 : t = c
      · simp [a1, a2]
      · simp [a1, a2]
    · simp [a1]
/-- A row is written anew. -/
theorem El.anew {lo hi : Nat} {w0 w w1 : World} {m : Lie} {n wd k : Nat} {A : Rm.Mx} {G : Nat → Int} (h3 : ∀ i, i < n → m.os i = 0 ∧ m.cs i = wd) (h4 : Mat lo hi w m n (fun _ => wd) A) (h5 : Within lo hi w0 w) (h6 : w.heap.size = w0.heap.size)
    (hk : k < n) (hw : Within (m.bs k) (m.bs k + 1) w w1) (hs : Seg w1 (m.bs k) 2 (m.os k) wd (fun j => .int .i64 (G j))) (hz : w1.heap.size = w.heap.size) :
    El lo hi w0 w1 m.b m.cap n wd (fun i j => if i = k then G j else A i j) :=
  ⟨m, rfl, rfl, h3, h4.anew hk hw hs, h5.trans (hw.mono (h4.rlo k hk) (h4.rhi k hk)), hz.trans h6⟩
/-- The rows of a round, k of them cleared. -/
def clrTo (M : Rm.Mx) (c k : Nat) : Rm.Mx := fun i j => if i < k then Rm.clr M c i j else M i j
end Go.Proofs.Ytboppklcmdfphaa
