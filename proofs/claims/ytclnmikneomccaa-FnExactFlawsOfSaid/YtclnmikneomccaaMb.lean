/- Maps of the call's own: what each key holds; looked up, put, counted. -/
import Derived.Test.YtclnmikneomccaaLr
import Derived.Maps.OwnOps
import Derived.Maps.OwnSet
import Derived.Maps.Views
import Derived.DeepKeys4
namespace Go.Proofs.Ytclnmikneomccaa
open Go.RowKit Go.Maps
set_option linter.unusedVariables false
set_option linter.unusedSimpArgs false
/-- A kind of maps. -/
structure MpK (β α : Type) where
  T : TypeId
  kt : TypeId
  et : TypeId
  ek : β → Value
  kl : β → Lit
  ok : β → Prop
  ev : α → Value
  ed : α → DataW Unit
  okv : α → Prop
  z : α
  R : Value → Option (DataW Unit × List MemPlace)
structure MpOk {β α : Type} (M : MpK β α) : Prop where
  K : Keyed Try.prog M.kt
  ht : Try.prog.underlying M.T = some (.map M.kt M.et)
  key : ∀ x, M.ok x → keyOf Try.prog M.kt (M.ek x) = some (M.kl x)
  ekinj : ∀ x y, M.ek x = M.ek y → x = y
  rd : ∀ a, M.okv a → M.R (M.ev a) = some (M.ed a, [])
  inv : ∀ v d ps, M.R v = some (d, ps) → ∃ a, v = M.ev a ∧ d = M.ed a
  edinj : ∀ a b, M.ed a = M.ed b → a = b
  okz : M.okv M.z
  hz : ∀ w, (zeroValue M.et).run Try.prog w = .ok (M.ev M.z) w
theorem MpOk.klinj {β α : Type} {M : MpK β α} (h : MpOk M) {x y : β} (hx : M.ok x) (hy : M.ok y) (e : M.kl x = M.kl y) : x = y :=
  h.ekinj _ _ (h.K.inj (h.key x hx) (by rw [e]; exact h.key y hy))
/-- Block b is a map of sz entries: what each key holds. -/
def HasM {β α : Type} (M : MpK β α) (w : World) (b sz : Nat) (m : β → Option α) : Prop :=
  ∃ D : DataW Unit, w.ownsMap Try.prog M.kt M.R b sz D ∧ Tidy D ∧ size D = sz ∧ ∀ x, M.ok x → has D (M.kl x) = (m x).isSome ∧ ∀ a, m x = some a → D.atKey (M.kl x) (M.ed M.z) = M.ed a
variable {β α : Type} {M : MpK β α}
theorem HasM.later {w w' : World} {b sz : Nat} {m : β → Option α} (h : HasM M w b sz m) (hb : Below w.heap.size w w') : HasM M w' b sz m := by
  obtain ⟨D, ⟨es, c, n1, n2⟩, h2⟩ := h
  exact ⟨D, ⟨es, c, (hb.block b (Array.getElem?_eq_some_iff.1 n1).1).trans n1, n2⟩, h2⟩
theorem HasM.made (w : World) : HasM M (w.alloc (.map #[] 0)) w.heap.size 0 (fun _ => none) :=
  ⟨.map [], World.ownsMap_made _ _ _ _, tidy_empty, rfl, fun x _ => ⟨rfl, fun a h => by simp at h⟩⟩
theorem HasM.lt {w : World} {b sz : Nat} {m : β → Option α} (h : HasM M w b sz m) : b < w.heap.size := by
  obtain ⟨D, ⟨es, c, n1, _⟩, _⟩ := h
  exact (Array.getElem?_eq_some_iff.1 n1).1
theorem HasM.grown {w w' : World} {b sz : Nat} {m : β → Option α} {row : Option Nat} (h : HasM M w b sz m) (hg : w.grownBy w' row) (hne : some b ≠ row) : HasM M w' b sz m := by
  obtain ⟨D, h1, h2⟩ := h
  exact ⟨D, h1.kept hg hne, h2⟩
theorem HasM.keep {w w' : World} {b sz : Nat} {m : β → Option α} (h : HasM M w b sz m) (e : w'.heap[b]? = w.heap[b]?) : HasM M w' b sz m := by
  obtain ⟨D, ⟨es, c, n1, n2⟩, h2⟩ := h
  exact ⟨D, ⟨es, c, e.trans n1, n2⟩, h2⟩
/-- It is a map, and no row of cells. -/
theorem HasM.ne {w : World} {b sz g : Nat} {m : β → Option α} {cs : Array Value} {t : TypeId} {f : Nat × Nat} (h : HasM M w b sz m) (hg : w.heap[g]? = some (.cells cs t f)) : g ≠ b := by
  rintro rfl
  obtain ⟨D, ⟨es, c, n1, _⟩, _⟩ := h
  rw [hg] at n1
  cases n1
variable {w : World} {ops : Array Oper} {rest : List Oper} {o : Oper} {a : Act} {Q : Exit → Act → World → Prop} {b sz : Nat} {m : β → Option α}
theorem look_some (H : MpOk M) (hB : HasM M w b sz m) (hg : o.guard = none) (mo xo : Operand) (hop : o.op = Op.lookup M.T mo xo true) (x : β) (hx : M.ok x) (hm : a.eval mo = .map (some b)) (hxe : a.eval xo = M.ek x) (v : α) (hv : m x = some v)
    (hK : wpList Try.prog ops Q rest (a.put o.dst (.tuple #[M.ev v, .bool true])) w) : wpList Try.prog ops Q (o :: rest) a w := by
  obtain ⟨D, h1, h2, h3, h4⟩ := hB
  refine wpList_lookup_own_ok w hg mo xo M.T hop M.kt M.et H.K H.ht M.R (H.hz w) (M.ed M.z) [] (H.rd _ H.okz) b sz D hm h1 _ _ hxe (H.key x hx) fun u ps hu => ?_
  obtain ⟨q, rfl, hq⟩ := H.inv _ _ _ hu
  have e := (h4 x hx).2 v hv
  rw [e] at hq
  have hh := (h4 x hx).1
  rw [hv] at hh
  rw [hh, ← H.edinj _ _ hq]
  exact hK
theorem look_none (H : MpOk M) (hB : HasM M w b sz m) (hg : o.guard = none) (mo xo : Operand) (hop : o.op = Op.lookup M.T mo xo true) (x : β) (hx : M.ok x) (hm : a.eval mo = .map (some b)) (hxe : a.eval xo = M.ek x) (hv : m x = none)
    (hK : wpList Try.prog ops Q rest (a.put o.dst (.tuple #[M.ev M.z, .bool false])) w) : wpList Try.prog ops Q (o :: rest) a w := by
  obtain ⟨D, h1, h2, h3, h4⟩ := hB
  refine wpList_lookup_own_ok w hg mo xo M.T hop M.kt M.et H.K H.ht M.R (H.hz w) (M.ed M.z) [] (H.rd _ H.okz) b sz D hm h1 _ _ hxe (H.key x hx) fun u ps hu => ?_
  obtain ⟨q, rfl, hq⟩ := H.inv _ _ _ hu
  have hh := (h4 x hx).1
  rw [hv] at hh
  have hh' : has D (M.kl x) = false := hh
  rw [atKey_of_not_has hh'] at hq
  rw [hh', ← H.edinj _ _ hq]
  exact hK
theorem len_map (H : MpOk M) (hB : HasM M w b sz m) (hg : o.guard = none) (mo : Operand) (hop : o.op = Op.call { callee := Callee.builtin Builtin.len, args := #[mo], argTypes := #[M.T] }) (hm : a.eval mo = .map (some b))
    (hK : wpList Try.prog ops Q rest (a.put o.dst (.int .i64 (sz : Int))) w) : wpList Try.prog ops Q (o :: rest) a w := by
  obtain ⟨D, h1, h2, h3, h4⟩ := hB
  refine wpList_len_own w hg mo M.T hop M.kt M.et H.ht M.R b sz D hm h1 ?_
  rw [h3]
  exact hK
theorem HasM.len (H : MpOk M) (hB : HasM M w b sz m) (ty : TypeId) : (Builtin.len_ #[M.T] ty #[.map (some b)]).run Try.prog w = .ok (.int .i64 (sz : Int)) w := by
  obtain ⟨D, h1, h2, h3, h4⟩ := hB
  rw [h1.len H.ht ty, h3]
open Classical in
theorem put_map (H : MpOk M) (hB : HasM M w b sz m) (hg : o.guard = none) (mo xo vo : Operand) (hop : o.op = Op.mapUpdate M.T mo xo vo) (x : β) (v : α) (hx : M.ok x) (hvo : M.okv v) (hm : a.eval mo = .map (some b)) (hxe : a.eval xo = M.ek x) (hve : a.eval vo = M.ev v) (hnew : m x = none) (hn : sz ≤ 2000000)
    (hK : ∀ w', HasM M w' b (sz + 1) (fun y => if x = y then some v else m y) → w.grownBy w' (some b) → wpList Try.prog ops Q rest (a.put o.dst undef) w') : wpList Try.prog ops Q (o :: rest) a w := by
  obtain ⟨D, h1, h2, h3, h4⟩ := hB
  have hh : has D (M.kl x) = false := by have := (h4 x hx).1; rw [hnew] at this; exact this
  have hkl := H.K.key (H.key x hx)
  refine wpList_mapUpdate_own w hg mo xo vo M.T hop M.kt M.et H.K H.ht M.R b sz D hm h1 (by unfold maxLen; omega) _ _ _ hxe hve (H.key x hx) _ [] (H.rd v hvo) fun w' h5 h6 => hK w' ⟨D.put (M.kl x) (M.ed v), h5, ?_, ?_, fun y hy => ?_⟩ h6
  · exact h5.tidy H.K
  · rw [size_put h2, hh, h3]; simp
  · show _ = ((if x = y then some v else m y) : Option α).isSome ∧ ∀ a, (if x = y then some v else m y) = some a → _
    by_cases e : x = y
    · subst e
      rw [if_pos rfl, has_put_same h2.isMap hkl, atKey_put_same h2.isMap hkl]
      exact ⟨rfl, fun a ha => by simp only [Option.some.injEq] at ha; rw [ha]⟩
    · have hne : M.kl y ≠ M.kl x := fun c => e (H.klinj hy hx c).symm
      rw [if_neg e, has_put_other hne, atKey_put_other hne]
      exact h4 y hy
/-- A number of 64 bits. -/
def W64 (a : Int) : Prop := -9223372036854775808 ≤ a ∧ a ≤ 9223372036854775807
theorem W64.wf {a : Int} (h : W64 a) : (Lit.int .i64 a).wf = true := by
  have h1 : IntKind.i64.min = -9223372036854775808 := by decide
  have h2 : IntKind.i64.max = 9223372036854775807 := by decide
  simp only [Lit.wf, Bool.and_eq_true, decide_eq_true_eq]
  unfold W64 at h
  omega
theorem zero2 (w : World) : (zeroValue 2).run Try.prog w = .ok (.int .i64 0) w := by kernel_rfl
/-- map[int64]int64. -/
abbrev MII (P : Program) : MpK Int Int := { T := 116, kt := 2, et := 2, ek := fun x => .int .i64 x, kl := fun x => .int .i64 x, ok := W64, ev := fun x => .int .i64 x, ed := fun x => .lit (.int .i64 x), okv := W64, z := 0, R := plainElem P 2 }
set_option maxRecDepth 100000 in
theorem okII : MpOk (MII Try.prog) where
  K := int_keyed Try.underlying2
  ht := Try.underlying116
  key := fun x hx => keyOf_int_mk Try.underlying2 hx.wf
  ekinj := fun x y h => by simpa using h
  rd := fun a ha => plainElem_int Try.underlying2 ha.wf
  inv := fun v d ps h => by
    obtain ⟨a, rfl, hc, _⟩ := plainElem_int_inv Try.underlying2 h
    simp only [Prod.mk.injEq] at hc
    exact ⟨a, rfl, hc.1⟩
  edinj := fun a b h => by simpa using h
  okz := show W64 0 from ⟨by omega, by omega⟩
  hz := zero2
theorem row68 : (68 : TypeId) < Try.prog.types.size := of_decide_eq_true (by kernel_rfl)
set_option maxRecDepth 100000 in
theorem wide68 : (match Try.prog.underlying 68 with | some (.array _ _) | some (.struct _) => true | _ => false) = true := by rw [Try.underlying68]
set_option maxRecDepth 100000 in
theorem law68 : Keyed Try.prog 68 := Keyed.of_law (deep_law_laid laidOut (m := 2) (by omega) row68 (by kernel_rfl) wide68)
theorem keyType68 : Try.prog.keyType 68 = true := by kernel_rfl
theorem cells68 : Try.prog.cellsOf 68 = 5 := by kernel_rfl
theorem cellsOf2 : Try.prog.cellsOf 2 = 1 := by kernel_rfl
theorem size68 : ∃ m, Try.prog.types.size = m + 1 := ⟨_, rfl⟩
def rval (r : R.G) : Value := .agg #[.int .i64 r.ly, .int .i64 r.xa, .int .i64 r.ya, .int .i64 r.xb, .int .i64 r.yb]
def rkey (r : R.G) : Lit := .string (keyBytes [.int .i64 r.ly, .int .i64 r.xa, .int .i64 r.ya, .int .i64 r.xb, .int .i64 r.yb])
set_option maxRecDepth 100000 in
theorem key68 {r : R.G} (h : r.b64) : keyOf Try.prog 68 (rval r) = some (rkey r) := by
  have h0 := W64.wf (a := r.ly) ⟨h.1, h.2.1⟩
  have h1 := W64.wf (a := r.xa) ⟨h.2.2.1, h.2.2.2.1⟩
  have h2 := W64.wf (a := r.ya) ⟨h.2.2.2.2.1, h.2.2.2.2.2.1⟩
  have h3 := W64.wf (a := r.xb) ⟨h.2.2.2.2.2.2.1, h.2.2.2.2.2.2.2.1⟩
  have h4 := W64.wf (a := r.yb) ⟨h.2.2.2.2.2.2.2.2.1, h.2.2.2.2.2.2.2.2.2⟩
  obtain ⟨m, hm⟩ := size68
  unfold rval keyOf
  simp only [Try.underlying68]
  rw [if_pos (by simp [keyType68, Value.formed, Try.underlying68, cells68]), hm]
  unfold Program.keyLits
  simp only [Try.underlying68, Value.cells]
  rw [if_pos ⟨by rw [cells68]; rfl, by kernel_rfl⟩]
  simp [Program.keyLits, Try.underlying2, cellsOf2, h0, h1, h2, h3, h4, rkey]
theorem rval_inj {x y : R.G} (h : rval x = rval y) : x = y := by
  obtain ⟨a, b, c, d, e⟩ := x
  obtain ⟨a', b', c', d', e'⟩ := y
  simp [rval] at h
  obtain ⟨rfl, rfl, rfl, rfl, rfl⟩ := h
  rfl
/-- map[Rect]int64. -/
abbrev MRI (P : Program) : MpK R.G Int := { T := 122, kt := 68, et := 2, ek := rval, kl := rkey, ok := R.G.b64, ev := fun x => .int .i64 x, ed := fun x => .lit (.int .i64 x), okv := W64, z := 0, R := plainElem P 2 }
set_option maxRecDepth 100000 in
theorem okRI : MpOk (MRI Try.prog) where
  K := law68
  ht := Try.underlying122
  key := fun x hx => key68 hx
  ekinj := fun x y h => rval_inj h
  rd := okII.rd
  inv := okII.inv
  edinj := okII.edinj
  okz := okII.okz
  hz := zero2
def rdat (r : R.G) : DataW Unit := .agg [.lit (.int .i64 r.ly), .lit (.int .i64 r.xa), .lit (.int .i64 r.ya), .lit (.int .i64 r.xb), .lit (.int .i64 r.yb)]
def i64q : Value → Option Int
  | .int k a => if k = .i64 then some a else none
  | _ => none
theorem i64q_some {v : Value} {a : Int} (h : i64q v = some a) : v = .int .i64 a := by
  unfold i64q at h
  split at h
  · split at h
    · rename_i e
      simp only [Option.some.injEq] at h
      rw [e, h]
    · simp at h
  · simp at h
def rlist : List Value → Option (DataW Unit × List MemPlace)
  | [a, b, c, d, e] => (i64q a).bind fun a => (i64q b).bind fun b => (i64q c).bind fun c => (i64q d).bind fun d => (i64q e).bind fun e => some (rdat ⟨a, b, c, d, e⟩, [])
  | _ => none
def rread : Value → Option (DataW Unit × List MemPlace)
  | .agg cs => rlist cs.toList
  | _ => none
theorem rread_inv {v : Value} {d : DataW Unit} {ps : List MemPlace} (h : rread v = some (d, ps)) : ∃ r, v = rval r ∧ d = rdat r := by
  cases v with
  | agg cs =>
    obtain ⟨l⟩ := cs
    change rlist l = some (d, ps) at h
    unfold rlist at h
    split at h
    · simp only [Option.bind_eq_some_iff] at h
      obtain ⟨a, h1, b, h2, c, h3, d', h4, e, h5, h6⟩ := h
      simp only [Option.some.injEq, Prod.mk.injEq] at h6
      rw [i64q_some h1, i64q_some h2, i64q_some h3, i64q_some h4, i64q_some h5]
      exact ⟨⟨a, b, c, d', e⟩, rfl, h6.1.symm⟩
    · simp at h
  | _ => simp [rread] at h
theorem rdat_inj {x y : R.G} (h : rdat x = rdat y) : x = y := by
  obtain ⟨a, b, c, d, e⟩ := x
  obtain ⟨a', b', c', d', e'⟩ := y
  simp [rdat] at h
  obtain ⟨rfl, rfl, rfl, rfl, rfl⟩ := h
  rfl
theorem zero68 (w : World) : (zeroValue 68).run Try.prog w = .ok (rval R.zsp) w := by kernel_rfl
/-- map[Rect]Rect. -/
abbrev MRR : MpK R.G R.G := { T := 100, kt := 68, et := 68, ek := rval, kl := rkey, ok := R.G.b64, ev := rval, ed := rdat, okv := fun _ => True, z := R.zsp, R := rread }
set_option maxRecDepth 100000 in
theorem okRR : MpOk MRR where
  K := law68
  ht := Try.underlying100
  key := fun x hx => key68 hx
  ekinj := fun x y h => rval_inj h
  rd := fun a _ => rfl
  inv := fun v d ps h => rread_inv h
  edinj := fun a b h => rdat_inj h
  okz := trivial
  hz := zero68
end Go.Proofs.Ytclnmikneomccaa
