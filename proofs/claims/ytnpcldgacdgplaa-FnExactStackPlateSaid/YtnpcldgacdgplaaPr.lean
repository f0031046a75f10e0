/- What a film's plate hangs on where stack and light have no fault and go together; results that hold a plate. -/
import Derived.Test.YtnpcldgacdgplaaPi
import Derived.Test.YtnpcldgacdgplaaFu
namespace Go.Proofs.Ytnpcldgacdgplaa
open Go.RowKit Fl
set_option linter.unusedVariables false
set_option linter.unusedSimpArgs false
/-- The phase of a film, in parts of a turn. -/
def phN (i s : Nat) (nm : Int) (g : Fi) : Int := ((phaseC (fwdC (cl i) (cl s) (cl g.i)) (cl (fi g.t)) (cl (fi nm))).bind fun P => floatToIntVal .f64 P .i64).getD 0
def plateF (i s : Nat) (nm pol : Int) (g : Fi) : P4 := plateC (phN i s nm g) (cl g.k) (admC pol (cl g.i) (fwdC (cl i) (cl s) (cl g.i)))
theorem ph_ok {i s : Nat} {nm pol : Int} {g : Fi} (hi : i < 18446744073709551616) (hs : s < 18446744073709551616) (hg : FiOk g) (mi : medB i = true) (hl : lfault nm s pol = 0) (hb : filmBad g = false) (ht : lefB i s g.i = true) :
    ∃ P, phaseC (fwdC (cl i) (cl s) (cl g.i)) (cl (fi g.t)) (cl (fi nm)) = some P ∧ Pos P 60 ∧ floatToIntVal .f64 P .i64 = some (phN i s nm g) := by
  obtain ⟨_, n1, n2, ms⟩ := lf_zero hl
  obtain ⟨mg, _, t1, t2⟩ := film_ok hb
  obtain ⟨l, el, bl⟩ := left_bd (med_pos hi mi) (side_bd hs ms) (med_pos hg.hi mg)
  unfold lefB at ht
  rw [el] at ht
  obtain ⟨v, ev, pv, _⟩ := root_pc bl ht
  have ef : fwdC (cl i) (cl s) (cl g.i) = some v := by unfold fwdC; rw [el]; exact ev
  obtain ⟨P, eP, pP⟩ := phase_pc (t := g.t.toNat) (m := nm.toNat) pv (by omega) (by omega) (by omega)
  rw [← fi_nat t1, ← fi_nat (by omega : 0 ≤ nm), ← ef] at eP
  obtain ⟨z, N, _, _, hN⟩ := floor_int pP
  refine ⟨P, eP, pP, ?_⟩
  unfold phN
  rw [eP, Option.bind_some, hN]
  rfl
def P0 : P4 := ⟨(cl 0, cl 0), (cl 0, cl 0), (cl 0, cl 0), (cl 0, cl 0)⟩
theorem pc_zero : Pc 0 0 0 0 0 0 0 0 P0 := ⟨⟨by omega, by omega, rfl⟩, ⟨by omega, by omega, rfl⟩, ⟨by omega, by omega, rfl⟩, ⟨by omega, by omega, rfl⟩⟩
abbrev Rv9 (c : Int) (a0 a1 a2 a3 a4 a5 a6 a7 : Nat) : Value := .agg #[.int .i64 c, .float .f64 a0, .float .f64 a1, .float .f64 a2, .float .f64 a3, .float .f64 a4, .float .f64 a5, .float .f64 a6, .float .f64 a7]
def RV (fn : FuncId) (args : Array Value) (w : World) (c : Int) (p : P4) : Prop :=
  Calls Try.prog fn args w fun e w' => ∃ a0 a1 a2 a3 a4 a5 a6 a7, e = .returned (Rv9 c a0 a1 a2 a3 a4 a5 a6 a7) ∧ Pc a0 a1 a2 a3 a4 a5 a6 a7 p ∧ Below w.heap.size w w'
/-- A call's own result, and a film's box beside it. -/
structure OwnF (B : Nat) (X : World) (r n : Nat) (t : TypeId) (k : Nat) (g : Fi) (W : World) : Prop where
  own : Own B X r n t W
  d0 : W.cell? ⟨k, 0, none⟩ = some (.float .f64 g.i)
  d1 : W.cell? ⟨k, 1, none⟩ = some (.float .f64 g.k)
  d2 : W.cell? ⟨k, 2, none⟩ = some (.int .i64 g.t)
  ne : k ≠ r
namespace OwnF
variable {B : Nat} {X W : World} {r n k : Nat} {t : TypeId} {g : Fi}
theorem drew (h : OwnF B X r n t k g W) : OwnF B X r n t k g W.drew := ⟨h.own.drew, h.d0, h.d1, h.d2, h.ne⟩
theorem drewN (h : OwnF B X r n t k g W) (q : Nat) : OwnF B X r n t k g (W.drewN q) := ⟨h.own.drewN q, h.d0, h.d1, h.d2, h.ne⟩
theorem call (h : OwnF B X r n t k g W) {W' : World} (b : Below W.heap.size W W') : OwnF B X r n t k g W' :=
  ⟨h.own.call b, old_cell b (World.block_lt_of_cell? _ _ h.d0) h.d0, old_cell b (World.block_lt_of_cell? _ _ h.d1) h.d1, old_cell b (World.block_lt_of_cell? _ _ h.d2) h.d2, h.ne⟩
theorem set (h : OwnF B X r n t k g W) (j : Nat) (v : Value) : OwnF B X r n t k g (W.setCell ⟨r, j, none⟩ v) := by
  have e : ∀ i, (W.setCell ⟨r, j, none⟩ v).cell? ⟨k, i, none⟩ = W.cell? ⟨k, i, none⟩ := fun i => by
    simp only [World.cell?]
    rw [Below.heap_setCell _ _ _ _ (by simpa using h.ne)]
  exact ⟨h.own.set j v, (e 0).trans h.d0, (e 1).trans h.d1, (e 2).trans h.d2, h.ne⟩
end OwnF
/-- What FilmPlate tells. -/
def fpCode (a o n : Nat) (G : Nat → Fi) (at' : Int) (nm : Int) (s : Nat) (pol : Int) : Int :=
  if ofault a o n G nm s pol = 0 then (if at' < 0 ∨ (n : Int) ≤ at' then 1 else if togB (lefB a s) a o n G = true then 0 else 4) else ofault a o n G nm s pol
def fpPlate (a o n : Nat) (G : Nat → Fi) (at' : Int) (nm : Int) (s : Nat) (pol : Int) : P4 :=
  if fpCode a o n G at' nm s pol = 0 then plateF a s nm pol (G at'.toNat) else P0
end Go.Proofs.Ytnpcldgacdgplaa
