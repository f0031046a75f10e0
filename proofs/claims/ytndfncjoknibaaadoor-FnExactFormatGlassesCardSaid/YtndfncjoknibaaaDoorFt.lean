/- Texts of lists of glasses, plainly; the specification's FormatGlasses: its contract. -/
import Derived.Test.YtndfncjoknibaaaDoorFg
import Derived.Test.YtndfncjoknibaaaDoorGd
import Derived.Test.YtndfncjoknibaaaDoorIj
namespace Go.Proofs.YtndfncjoknibaaaDoor
open Go.RowKit Fl
set_option linter.unusedVariables false
def gf (g : Gl) : Int := gfault g.s g.kd g.lo g.hi g.n g.f g.x
def zeroSh (x : Nat) : Prop := FloatKind.f64.format.order x 0 = some .eq
/-- The text of the first k glasses. -/
def textB (G : Nat → Gl) : Nat → ByteArray
  | 0 => ⟨#[]⟩
  | k + 1 => textB G k ++ lineB (G k)
def Good (G : Nat → Gl) (i : Nat) : Prop := gf (G i) = 0 ∧ zeroSh (G i).x ∧ ∀ j, j < i → ¬ (G j).s = (G i).s
def OkAll (G : Nat → Gl) (n : Nat) : Prop := n ≤ 100 ∧ (∀ i, i < n → Good G i) ∧ (textB G n).size ≤ 4000
/-- What is told of n glasses: their text, or nothing. -/
def Fm (G : Nat → Gl) (n : Nat) (t : ByteArray) : Prop := (OkAll G n ∧ t = textB G n) ∨ (¬ OkAll G n ∧ t = ⟨#[]⟩)
theorem Fm.same {G : Nat → Gl} {n : Nat} {t u : ByteArray} (h : Fm G n t) (k : Fm G n u) : t = u := by
  rcases h with ⟨h1, rfl⟩ | ⟨h1, rfl⟩
  · rcases k with ⟨_, rfl⟩ | ⟨k1, _⟩
    · rfl
    · exact absurd h1 k1
  · rcases k with ⟨k1, _⟩ | ⟨_, rfl⟩
    · exact absurd k1 h1
    · rfl
theorem right_of {g : Gl} (h : gf g = 0) : Right g := by
  obtain ⟨h1, h2, h3, h4, _⟩ := gfault_zero h
  unfold nameB at h1
  unfold rangeB at h3
  simp only [Bool.and_eq_true, decide_eq_true_eq] at h1 h3
  refine ⟨h1.1.1.2, many_cases h2, by omega, by omega, fun i hi => ?_⟩
  unfold anyBey at h4
  rw [List.any_eq_false] at h4
  have := h4 i (List.mem_range.2 hi)
  unfold beyB at this
  simp at this
  omega
theorem text_mono (G : Nat → Gl) {k n : Nat} (h : k ≤ n) : (textB G k).size ≤ (textB G n).size := by
  induction n with
  | zero => have : k = 0 := by omega
            subst this; exact Nat.le_refl _
  | succ n ih =>
    by_cases e : k = n + 1
    · subst e; exact Nat.le_refl _
    · have := ih (by omega)
      simp only [textB, ByteArray.size_append]
      omega
def kindB' (kd : Int) : ByteArray := if kd = 2 then ⟨#[32, 116, 104, 114, 101, 101, 32]⟩ else ⟨#[32, 115, 105, 120, 32]⟩
def spH (o : ByteArray) (g : Gl) : ByteArray := o ++ ⟨#[103, 108, 97, 115, 115, 32]⟩ ++ g.s ++ kindB' g.kd ++ numB g.lo ++ ⟨#[32]⟩ ++ numB g.hi
def sp (o : ByteArray) (g : Gl) : Nat → ByteArray
  | 0 => spH o g
  | k + 1 => sp o g k ++ ⟨#[32]⟩ ++ numB (g.f k)
theorem sp_list (o : ByteArray) (g : Gl) (k : Nat) : (sp o g k).data.toList = (spH o g).data.toList ++ ((List.range k).map fun i => (32 : UInt8) :: Lib.itoa (g.f i)).flatten := by
  induction k with
  | zero => simp [sp]
  | succ k ih =>
    rw [List.range_succ, List.map_append, List.flatten_append, ← List.append_assoc, ← ih]
    simp [sp, numB]
theorem cat_range {α : Type} (lo hi : Int) (f : Nat → Int) (h : Int → α) (n : Nat) : (List.range (2 + n)).map (fun i => h (cat lo hi f i)) = h lo :: h hi :: (List.range n).map fun i => h (f i) := by
  induction n with
  | zero => rfl
  | succ n ih =>
    rw [show 2 + (n + 1) = (2 + n) + 1 by omega, List.range_succ, List.map_append, ih, List.range_succ, List.map_append]
    have e : cat lo hi f (2 + n) = f n := by
      unfold cat
      rw [if_neg (by omega), if_neg (by omega), show 2 + n - 2 = n by omega]
    simp [e]
theorem sp_line (o : ByteArray) {g : Gl} (h : Right g) : sp o g g.n ++ ⟨#[10]⟩ = o ++ lineB g := by
  have hw : kindB' g.kd = ⟨#[32]⟩ ++ wordK g.kd ++ ⟨#[32]⟩ := by
    rcases h.kn with ⟨e, _⟩ | ⟨e, _⟩ <;> rw [e] <;> rfl
  have key : (sp o g g.n).data.toList = o.data.toList ++ Lib.join ((ws g).map (·.data.toList)) [32] := by
    rw [sp_list]
    unfold ws spH
    have hr := cat_range g.lo g.hi g.f (fun z => (numB z).data.toList) g.n
    simp only [List.map_append, List.map_map, Function.comp_def]
    rw [hr]
    simp only [List.map_cons, List.map_nil, List.cons_append, List.nil_append]
    rw [Lib.join_cons]
    unfold Lib.joinTail
    rw [hw]
    simp [numB, Function.comp_def]
  apply ByteArray.ext
  apply Array.toList_inj.1
  unfold lineB
  simp [key]
end Go.Proofs.YtndfncjoknibaaaDoor
