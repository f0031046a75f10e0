/- Books: a map from a fibre's slot to the Id of its light: laws. -/
import Derived.Test.YtinfbbbgfkaioaaLc
import Derived.Test.YtinfbbbgfkaioaaOpen
import Derived.Test.YtinfbbbgfkaioaaAp
import Derived.Maps.OwnOps
import Derived.Maps.OwnSet
import Derived.Maps.Views
import Derived.DeepKeys4
namespace Go.Proofs.Ytinfbbbgfkaioaa
open Go.RowKit Go.Maps
set_option linter.unusedVariables false
set_option linter.unusedSimpArgs false
theorem row115 : (145 : TypeId) < Try.prog.types.size := of_decide_eq_true (by kernel_rfl)
set_option maxRecDepth 100000 in
theorem wide115 : (match Try.prog.underlying 145 with | some (.array _ _) | some (.struct _) => true | _ => false) = true := by rw [Try.underlying145]
set_option maxRecDepth 100000 in
theorem law115 : Keyed Try.prog 145 := Keyed.of_law (deep_law_laid laidOut (m := 2) (by omega) row115 (by kernel_rfl) wide115)
/-- A number of 64 bits. -/
def W64 (a : Int) : Prop := -9223372036854775808 ≤ a ∧ a ≤ 9223372036854775807
theorem W64.wf {a : Int} (h : W64 a) : (Lit.int .i64 a).wf = true := by
  have h1 : IntKind.i64.min = -9223372036854775808 := by decide
  have h2 : IntKind.i64.max = 9223372036854775807 := by decide
  simp only [Lit.wf, Bool.and_eq_true, decide_eq_true_eq]
  unfold W64 at h
  omega
theorem keyType115 : Try.prog.keyType 145 = true := by kernel_rfl
theorem cells115 : Try.prog.cellsOf 145 = 2 := by kernel_rfl
theorem cellsOf2 : Try.prog.cellsOf 2 = 1 := by kernel_rfl
theorem size115 : ∃ m, Try.prog.types.size = m + 1 := ⟨_, rfl⟩
def kf (a b : Int) : Lit := .string (keyBytes [.int .i64 a, .int .i64 b])
set_option maxRecDepth 100000 in
theorem key115 {a b : Int} (wa : W64 a) (wb : W64 b) : keyOf Try.prog 145 (.agg #[.int .i64 a, .int .i64 b]) = some (kf a b) := by
  have ha := wa.wf
  have hb := wb.wf
  obtain ⟨m, hm⟩ := size115
  unfold keyOf
  simp only [Try.underlying145]
  rw [if_pos (by simp [keyType115, Value.formed, Try.underlying145, cells115]), hm]
  unfold Program.keyLits
  simp only [Try.underlying145, Value.cells]
  rw [if_pos ⟨by rw [cells115]; rfl, by kernel_rfl⟩]
  simp [Program.keyLits, Try.underlying2, cellsOf2, ha, hb, kf]
theorem kf_inj {a b c d : Int} (wa : W64 a) (wb : W64 b) (wc : W64 c) (wd : W64 d) (h : kf a b = kf c d) : a = c ∧ b = d := by
  have := law115.inj (key115 wa wb) (by rw [h]; exact key115 wc wd)
  simpa using this
/-- Block b is a map of at most n slots, that tells whose each slot is. -/
def Book (w : World) (b n : Nat) (B : Int → Int → Int) : Prop :=
  ∃ D : DataW Unit, w.ownsMap Try.prog 145 (plainElem Try.prog 2) b n D ∧ IsMap D ∧ ∀ f s, W64 f → W64 s → D.atKey (kf f s) (.lit (.int .i64 0)) = .lit (.int .i64 (B f s)) ∧ has D (kf f s) = decide (B f s ≠ 0)
theorem Book.congr {w : World} {b n : Nat} {B C : Int → Int → Int} (h : Book w b n B) (e : ∀ f s, B f s = C f s) : Book w b n C := by
  have : B = C := funext fun f => funext fun s => e f s
  rw [← this]; exact h
theorem Book.later {w w' : World} {b n : Nat} {B : Int → Int → Int} (h : Book w b n B) (hb : Below w.heap.size w w') : Book w' b n B := by
  obtain ⟨D, ⟨es, c, n1, n2⟩, h2, h3⟩ := h
  exact ⟨D, ⟨es, c, (hb.block b (Array.getElem?_eq_some_iff.1 n1).1).trans n1, n2⟩, h2, h3⟩
theorem Book.made (w : World) : Book (w.alloc (.map #[] 0)) w.heap.size 0 (fun _ _ => 0) :=
  ⟨.map [], World.ownsMap_made _ _ _ _, isMap_empty, fun f s _ _ => ⟨rfl, rfl⟩⟩
theorem zero2 (w : World) : (zeroValue 2).run Try.prog w = .ok (.int .i64 0) w := by kernel_rfl
theorem Book.lt {w : World} {b n : Nat} {B : Int → Int → Int} (h : Book w b n B) : b < w.heap.size := by
  obtain ⟨D, ⟨es, c, n1, _⟩, _⟩ := h
  exact (Array.getElem?_eq_some_iff.1 n1).1
theorem Book.grown {w w' : World} {b n : Nat} {B : Int → Int → Int} {row : Option Nat} (h : Book w b n B) (hg : w.grownBy w' row) (hne : some b ≠ row) : Book w' b n B := by
  obtain ⟨D, h1, h2, h3⟩ := h
  exact ⟨D, h1.kept hg hne, h2, h3⟩
/-- 'm[k]' of a book. -/
theorem look_book {w : World} {ops : Array Oper} {rest : List Oper} {o : Oper} {a : Act} {Q : Exit → Act → World → Prop} {b n : Nat} {B : Int → Int → Int} (hB : Book w b n B)
    (hg : o.guard = none) (m x : Operand) (hop : o.op = Op.lookup 124 m x false) (f s : Int) (wf : W64 f) (ws : W64 s) (hm : a.eval m = .map (some b)) (hx : a.eval x = .agg #[.int .i64 f, .int .i64 s])
    (hK : wpList Try.prog ops Q rest (a.put o.dst (.int .i64 (B f s))) w) : wpList Try.prog ops Q (o :: rest) a w := by
  obtain ⟨D, h1, h2, h3⟩ := hB
  refine wpList_lookup_own_int w hg m x 124 hop 145 2 .i64 law115 Try.underlying124 Try.underlying2 (zero2 w) b n D hm h1 _ _ hx (key115 wf ws) fun c hc hw => ?_
  have := (h3 f s wf ws).1
  rw [hc] at this
  simp at this
  rw [this]
  exact hK
/-- 'm[k] = v' of a book, v not 0. -/
theorem put_book {w : World} {ops : Array Oper} {rest : List Oper} {o : Oper} {a : Act} {Q : Exit → Act → World → Prop} {b n : Nat} {B : Int → Int → Int} (hB : Book w b n B)
    (hg : o.guard = none) (m x v : Operand) (hop : o.op = Op.mapUpdate 124 m x v) (f s d : Int) (wf : W64 f) (ws : W64 s) (wd : W64 d) (hd : d ≠ 0) (hn : n ≤ 1000000) (hm : a.eval m = .map (some b)) (hx : a.eval x = .agg #[.int .i64 f, .int .i64 s]) (hv : a.eval v = .int .i64 d)
    (hK : ∀ w', Book w' b (n + 1) (fun f' s' => if f = f' ∧ s = s' then d else B f' s') → w.grownBy w' (some b) → wpList Try.prog ops Q rest (a.put o.dst undef) w') : wpList Try.prog ops Q (o :: rest) a w := by
  obtain ⟨D, h1, h2, h3⟩ := hB
  refine wpList_mapUpdate_own w hg m x v 124 hop 145 2 law115 Try.underlying124 _ b n D hm h1 (by unfold maxLen; omega) _ _ _ hx hv (key115 wf ws) _ [] (plainElem_int Try.underlying2 wd.wf) fun w' h4 h5 => hK w' ⟨D.put (kf f s) (.lit (.int .i64 d)), h4, h2.put _ _, fun f' s' wf' ws' => ?_⟩ h5
  show _ = DataW.lit (Lit.int .i64 (if f = f' ∧ s = s' then d else B f' s')) ∧ _ = decide ((if f = f' ∧ s = s' then d else B f' s') ≠ 0)
  by_cases e : f = f' ∧ s = s'
  · obtain ⟨rfl, rfl⟩ := e
    rw [if_pos ⟨rfl, rfl⟩]
    exact ⟨atKey_put_same h2 (law115.key (key115 wf ws)) _ _, by rw [has_put_same h2 (law115.key (key115 wf ws))]; simp [hd]⟩
  · have hne : kf f' s' ≠ kf f s := fun h => by
      obtain ⟨rfl, rfl⟩ := kf_inj wf' ws' wf ws h
      exact e ⟨rfl, rfl⟩
    rw [if_neg e, atKey_put_other hne, has_put_other hne]
    exact h3 f' s' wf' ws'
end Go.Proofs.Ytinfbbbgfkaioaa
