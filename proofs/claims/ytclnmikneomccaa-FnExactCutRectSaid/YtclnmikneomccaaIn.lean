/- A rectangle put into a row of its own at a place: slices.Insert: a contract. -/
import Derived.Test.YtclnmikneomccaaLq
import Derived.Test.YtclnmikneomccaaMv
import Derived.Laws.CopyOwn
import Derived.Lib.Overlaps
import Derived.Lib.AppendZerosOnto
namespace Go.Proofs.Ytclnmikneomccaa
open Go.RowKit Go.Maps
set_option linter.unusedVariables false
set_option linter.unusedSimpArgs false
/-- x at place i, what stood from i on one further. -/
def ins (S : Nat → R.G) (i : Nat) (x : R.G) : Nat → R.G := fun j => if j < i then S j else if j = i then x else S (j - 1)
theorem flat_addF (F : Nat → List Value) (a : Nat) : ∀ b, flat F (a + b) = flat F a ++ flat (fun i => F (a + i)) b
  | 0 => by simp [flat_zero]
  | b + 1 => by rw [← Nat.add_assoc, flat_succ, flat_addF F a b, flat_succ, List.append_assoc]
theorem flat_ins (S : Nat → R.G) (i k : Nat) (x : R.G) : flat (fun j => R.spl (ins S i x j)) (i + k + 1) = (flat (fun j => R.spl (S j)) (i + k)).take (i * 5) ++ (R.spl x ++ (flat (fun j => R.spl (S j)) (i + k)).drop (i * 5)) := by
  have hl : (flat (fun j => R.spl (S j)) i).length = i * 5 := flat_len (m := 5) (fun _ => rfl) _
  rw [flat_addF (fun j => R.spl (S j)) i k, List.take_left' hl, List.drop_left' hl]
  rw [show i + k + 1 = (i + 1) + k by omega, flat_addF, flat_succ, List.append_assoc]
  have e1 : flat (fun j => R.spl (ins S i x j)) i = flat (fun j => R.spl (S j)) i := flat_congr fun j hj => by simp [ins, hj]
  have e2 : flat (fun j => R.spl (ins S i x (i + 1 + j))) k = flat (fun j => R.spl (S (i + j))) k := flat_congr fun j hj => by
    have h1 : ¬ (i + 1 + j < i) := by omega
    have h2 : ¬ (i + 1 + j = i) := by omega
    have h3 : i + 1 + j - 1 = i + j := by omega
    simp only [ins, h1, h2, h3, if_false]
  rw [e1, e2]
  simp [ins]
/-- copy over rows of elements of m cells. -/
theorem run_copy_rowV {P : Program} (w : World) (dT sT ty elem : TypeId) (g o dLen dCap : Nat) (a : Addr) (sLen sCap : Nat) (cur : Array Value) (t : TypeId) (cs : List Value) (m : Nat)
    (hu : P.underlying dT = some (.slice elem)) (hs : (P.info? elem).map (·.size) = some m)
    (hg : w.heap[g]? = some (.cells cur t (0, 0))) (hn : cs.length = Nat.min sLen dLen * m)
    (hsrc : ∀ j v, cs[j]? = some v → w.cell? (a.add j) = some v) (hfit : o + cs.length ≤ cur.size) (h1 : ∀ v ∈ cs, v.oneCell' = true) :
    (Builtin.copy_ #[dT, sT] ty #[.slice (some ⟨g, o, none⟩) dLen dCap, .slice (some a) sLen sCap]).run P w =
      .ok (goInt (Nat.min sLen dLen)) (w.setRow g (cur.toList.take o ++ cs ++ cur.toList.drop (o + cs.length)).toArray) := by
  have hl := run_loadCells_list (P := P) w a cs hsrc
  have hst := run_storeCells_at P g o t cs 0 cur w hg (by simpa using hfit) h1
  cases hq : P.info? elem with
  | none => simp [hq] at hs
  | some i =>
    have hi : i.size = m := by simpa [hq] using hs
    simp [Builtin.copy_, run_underlying hu, Builtin.lenOf, Builtin.firstCells, sizeOf, typeInfo, hq, hi, ← hn, hl, hst]
/-- The same as an operation of the walk: the row behind it is known, nothing else has changed. -/
theorem wpList_copyV {P : Program} {w : World} {ops : Array Oper} {rest : List Oper} {o : Oper} {a : Act} {Q : Exit → Act → World → Prop} (hgd : o.guard = none) (d s : Operand) (dT sT : TypeId)
    (ho : o.op = .call { callee := .builtin .copy, args := #[d, s], argTypes := #[dT, sT] }) (elem : TypeId) (m : Nat) (hu : P.underlying dT = some (.slice elem)) (hsz : (P.info? elem).map (·.size) = some m)
    (g off dLen dCap : Nat) (ad : Addr) (sLen sCap : Nat) (hd : a.eval d = .slice (some ⟨g, off, none⟩) dLen dCap) (hs : a.eval s = .slice (some ad) sLen sCap)
    (cur : List Value) (t : TypeId) (hg : w.heap[g]? = some (.cells cur.toArray t (0, 0))) (cs : List Value) (hn : cs.length = Nat.min sLen dLen * m)
    (hsrc : ∀ j v, cs[j]? = some v → w.cell? (ad.add j) = some v) (hfit : off + cs.length ≤ cur.length) (h1 : ∀ v ∈ cs, v.oneCell' = true)
    (B : Nat) (w0 : World) (hb : Below B w0 w) (hBg : B ≤ g)
    (h : ∀ w', Hid (w'.heap[g]? = some (.cells (splice cur off cs).toArray t (0, 0))) → Below B w0 w' → (∀ b, b ≠ g → w'.heap[b]? = w.heap[b]?) → w'.heap.size = w.heap.size → wpList P ops Q rest (a.put o.dst (goInt (Nat.min sLen dLen))) w') :
    wpList P ops Q (o :: rest) a w := by
  refine wpList_plain hgd fun K hK => ?_
  have hrun := run_copy_rowV (P := P) w dT sT o.type elem g off dLen dCap ad sLen sCap cur.toArray t cs m hu hsz hg hn hsrc (by simpa using hfit) h1
  unfold Oper.wp
  simp [execOp, ho, resolve, invoke, builtin, hd, hs, hrun, Result.andThen]
  refine hK _ _ ?_
  have hq := h _ (show Hid _ from (by show _ = _; simpa [splice] using setRow_heap w g _ (splice cur off cs).toArray t (0, 0) hg)) (below_setRow hb hBg _) (fun b hb => setRow_other w g b _ hb) (by simp [World.setRow])
  simpa [splice] using hq
end Go.Proofs.Ytclnmikneomccaa
