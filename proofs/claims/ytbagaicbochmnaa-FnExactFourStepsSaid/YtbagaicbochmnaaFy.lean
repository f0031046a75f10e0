/- Floats by their classes: orders, signs turned; blocks that stay; what an angle is by classes. -/
import Derived.Test.YtbagaicbochmnaaCi
import Derived.Deep.RegionHeld3
import Derived.Deep.DeepCutAuto
namespace Go.Proofs.Ytbagaicbochmnaa
open Go.RowKit Fl
set_option linter.unusedVariables false
theorem fc_own {x : Nat} (h : x < 18446744073709551616) : Fc x (cl x) := ⟨h, rfl⟩
def ordO (o p : Option Nat) : Option Ordering := o.bind fun x => p.bind fun y => FloatKind.f64.format.order x y
theorem ord_fc {x y : Nat} {o p : Option Nat} (h : Fc x o) (k : Fc y p) : FloatKind.f64.format.order x y = ordO o p := by
  rw [← h.c, ← k.c]
  unfold ordO
  by_cases nx : Num x
  · by_cases ny : Num y
    · simp [cl, nx, ny]
    · simp only [cl, nx, ny, if_true, if_false, Option.bind_some, Option.bind_none]
      exact order_nan_r x k.lx ny
  · simp only [cl, nx, if_false, Option.bind_none]
    exact order_nan_l y h.lx nx
def geO (o p : Option Nat) : Bool := ordO o p == some .gt || ordO o p == some .eq
def gtO (o p : Option Nat) : Bool := ordO o p == some .gt
abbrev zO : Option Nat := some 0
abbrev oneO : Option Nat := some 4607182418800017408
theorem fc_zero : Fc 0 zO := ⟨by decide, by decide⟩
theorem fc_one : Fc 4607182418800017408 oneO := ⟨by decide, by decide⟩
theorem ge_fc {x y : Nat} {o p : Option Nat} (h : Fc x o) (k : Fc y p) : (FloatKind.f64.format.order x y == some .gt || FloatKind.f64.format.order x y == some .eq) = geO o p := by rw [ord_fc h k]; rfl
theorem gt_fc {x y : Nat} {o p : Option Nat} (h : Fc x o) (k : Fc y p) : (FloatKind.f64.format.order x y == some .gt) = gtO o p := by rw [ord_fc h k]; rfl
def negO (o : Option Nat) : Option Nat := o.map (Op.negFloat .f64)
theorem fc_neg {x : Nat} {o : Option Nat} (h : Fc x o) : Fc (Op.negFloat .f64 x) (negO o) := by
  refine ⟨neg_lt h.lx, ?_⟩
  rw [← h.c]
  by_cases n : Num x
  · simp [cl, n, (neg_num h.lx).2 n, negO]
  · simp [cl, n, mt (neg_num h.lx).1 n, negO]
def Blk (W : World) (b : Nat) (cs : Array Value) (t : TypeId) : Prop := W.heap[b]? = some (.cells cs t (0, 0))
namespace Blk
variable {W W' : World} {b r : Nat} {cs : Array Value} {t : TypeId}
theorem lt (h : Blk W b cs t) : b < W.heap.size := (Array.getElem?_eq_some_iff.1 h).1
theorem cell (h : Blk W b cs t) {j : Nat} {v : Value} (hj : cs[j]? = some v) : W.cell? ⟨b, j, none⟩ = some v := by simp only [World.cell?, show W.heap[b]? = _ from h]; exact hj
theorem frozen (h : Blk W b cs t) (j : Nat) : W.frozen? ⟨b, j, none⟩ = false := by simp only [World.frozen?, show W.heap[b]? = _ from h]; rfl
theorem old (h : Blk W b cs t) (k : Below W.heap.size W W') : Blk W' b cs t := (k.block b h.lt).trans h
theorem alloc (h : Blk W b cs t) (o : Obj) : Blk (W.alloc o) b cs t := (Below.heap_alloc _ _ _ h.lt).trans h
theorem new {c : Array Value} (hb : b = W.heap.size) : Blk (W.alloc (.cells c t)) b c t := by subst hb; show (W.heap.push _)[W.heap.size]? = _; simp
theorem drew (h : Blk W b cs t) : Blk W.drew b cs t := h
theorem drewN (h : Blk W b cs t) (q : Nat) : Blk (W.drewN q) b cs t := (below_drewN (Below.refl W.heap.size W) q).block b h.lt |>.trans h
theorem setOther (h : Blk W b cs t) {p : Addr} (hp : b ≠ p.block) (u : Value) : Blk (W.setCell p u) b cs t := (Below.heap_setCell _ _ _ _ hp).trans h
theorem set (h : Blk W b cs t) (j : Nat) (v : Value) {c2 : Array Value} (hc : cs.setIfInBounds j v = c2) : Blk (W.setCell ⟨b, j, none⟩ v) b c2 t := by
  subst hc
  unfold Blk at h ⊢
  simp [World.setCell, Array.getElem?_modify, h]
end Blk
theorem below_new {B : Nat} {w W : World} (h : Below B w W) (o : Obj) (hB : B ≤ w.heap.size := by exact Nat.le_refl _) : Below B w (W.alloc o) := h.alloc (Nat.le_trans hB h.size) o
def ltO (o p : Option Nat) : Bool := ordO o p == some .lt
def eqO (o p : Option Nat) : Bool := ordO o p == some .eq
/-- The angle's first step: half a turn. -/
def an1 (p : Option Nat × Option Nat) : Int × (Option Nat × Option Nat) := if ltO p.2 zO || (eqO p.2 zO && ltO p.1 zO) then (524288, (negO p.1, negO p.2)) else (0, p)
/-- The second: a quarter. -/
def an2 (s : Int × (Option Nat × Option Nat)) : Int × (Option Nat × Option Nat) := if gtO s.2.1 zO then s else (s.1 + 262144, (s.2.2, negO s.2.1))
/-- What is tried at step q. -/
def anW (s : Int × (Option Nat × Option Nat)) (q : Nat) : Option Nat × Option Nat := mulC s.2 ((uC (q + 2)).1, negO (uC (q + 2)).2)
def pw : Nat → Int
  | 0 => 131072
  | q + 1 => pw q / 2
def an3 (s : Int × (Option Nat × Option Nat)) : Nat → Int × (Option Nat × Option Nat)
  | 0 => s
  | q + 1 => if geO (anW (an3 s q) q).2 zO then ((an3 s q).1 + pw q, anW (an3 s q) q) else an3 s q
def angC (p : Option Nat × Option Nat) : Int := (an3 (an2 (an1 p)) 18).1
theorem pw_bd : ∀ q, 0 ≤ pw q ∧ pw q ≤ 131072
  | 0 => by decide
  | q + 1 => by
    have := pw_bd q
    show 0 ≤ pw q / 2 ∧ pw q / 2 ≤ 131072
    omega
theorem an3_bd {s : Int × (Option Nat × Option Nat)} (h : 0 ≤ s.1) (h2 : s.1 ≤ 1000000) : ∀ q, 0 ≤ (an3 s q).1 ∧ (an3 s q).1 ≤ 1000000 + q * 131072
  | 0 => by simp [an3]; omega
  | q + 1 => by
    have h3 := an3_bd h h2 q
    have h4 := pw_bd q
    unfold an3
    split <;> simp <;> omega
theorem an12_bd (p : Option Nat × Option Nat) : 0 ≤ (an2 (an1 p)).1 ∧ (an2 (an1 p)).1 ≤ 1000000 := by
  unfold an2 an1
  split <;> split <;> simp
theorem an1_bd (p : Option Nat × Option Nat) : 0 ≤ (an1 p).1 ∧ (an1 p).1 ≤ 524288 := by
  unfold an1
  split <;> simp
theorem zc_fc {a b : Nat} {p : Option Nat × Option Nat} (h : Zc a b p) : Fc a p.1 ∧ Fc b p.2 := ⟨⟨h.lx, by rw [← h.c]⟩, ⟨h.ly, by rw [← h.c]⟩⟩
theorem fc_zc {a b : Nat} {o q : Option Nat} (h : Fc a o) (k : Fc b q) : Zc a b (o, q) := ⟨h.lx, k.lx, by rw [h.c, k.c]⟩
end Go.Proofs.Ytbagaicbochmnaa
