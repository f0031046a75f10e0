/- How glasses that come in are opened; the program's table, as the rows lay it. -/
import Derived.Test.YtndfncjoknibaaaDoorGc
import Derived.ProofKit
import Derived.OpenShut
import Derived.ShutString
import Derived.ChangeOld
import Derived.Below
import Derived.OpenVars
import Derived.Lib.SmallJoins
import Derived.Lib.LaidTab
import Derived.LaidMore
import Derived.Stop.Joined
import Derived.Stop.LaidErr
import Derived.SevenTiedAt
import Derived.MakeChecks
import Derived.Deep.Matrix
namespace Go.Proofs.YtndfncjoknibaaaDoor
open Go.ChangeShapes Go.WideShapes Go.ChangeAt Go.RowKit Go.Joins Go.Deep Fl
set_option linter.unusedVariables false
theorem own : ownKnob Tryd.prog.godebug = none := by kernel_rfl
theorem laidOut : laidOutB Tryd.prog = true := by kernel_rfl
theorem i64_hi {n : Int} (h : (Lit.int .i64 n).wf = true) : n ≤ 9223372036854775807 := by
  simp only [Lit.wf, Bool.and_eq_true, decide_eq_true_eq] at h
  have h2 : IntKind.i64.max = 9223372036854775807 := by decide
  omega
theorem i64_lo {n : Int} (h : (Lit.int .i64 n).wf = true) : -9223372036854775808 ≤ n := by
  simp only [Lit.wf, Bool.and_eq_true, decide_eq_true_eq] at h
  have h2 : IntKind.i64.min = -9223372036854775808 := by decide
  omega
theorem f64_lt {x : Nat} (h : (Lit.float .f64 x).wf = true) : x < 18446744073709551616 := by simpa [Lit.wf] using h
theorem cells2 : Tryd.prog.cellsOf 2 = 1 := by kernel_rfl
theorem cells9 : Tryd.prog.cellsOf 9 = 1 := by kernel_rfl
theorem cells22 : Tryd.prog.cellsOf 22 = 1 := by kernel_rfl
theorem cells23 : Tryd.prog.cellsOf 23 = 1 := by kernel_rfl
theorem cells25 : Tryd.prog.cellsOf 25 = 6 := by kernel_rfl
theorem maxLen_eq : maxLen = 9223372036854775807 := rfl
theorem trod_float {H : Type} {enc : TypeId × Value → H} {P : Program} {w : World} {base : Nat} {spare : Nat → Bool} {held : Bool} {t : TypeId} {fuel : Nat} {cs : List Value} {x : DataW H × List MemPlace} {k : FloatKind}
    (ht : P.underlying t = some (.float k)) (h : DataW.trod enc P w base spare held fuel t cs = some x) : ∃ n, cs = [.float k n] ∧ (Lit.float k n).wf = true := by
  cases fuel with
  | zero => simp [DataW.trod] at h
  | succ n =>
    unfold DataW.trod at h
    rw [ht] at h
    split at h <;> simp_all
/-- A slice of numbers that can be read. -/
theorem trod_row {H : Type} {enc : TypeId × Value → H} {W : World} {base : Nat} {spare : Nat → Bool} {held : Bool} {fuel : Nat} {c : Value} {x : DataW H × List MemPlace}
    (hf : DataW.trod enc Tryd.prog W base spare held fuel 22 [c] = some x) : ∃ (n : Nat) (f : Nat → Int), RdRow W c n f ∧ n ≤ 9223372036854775807 := by
  rcases open_ints Tryd.underlying22 Tryd.underlying2 cells2 hf with ⟨hcs0, _⟩ | ⟨a, len, cap, zs, hcs0, _, hl, hm, hz, _, hc, _⟩
  · simp at hcs0
    subst hcs0
    exact ⟨0, fun _ => 0, Or.inl ⟨_, _, rfl, rfl⟩, by omega⟩
  simp at hcs0
  subst hcs0
  rw [maxLen_eq] at hm
  have hz2 : len ≤ zs.length := by
    split at hz <;> omega
  by_cases h0 : len = 0
  · subst h0
    exact ⟨0, fun _ => 0, Or.inl ⟨_, _, rfl, rfl⟩, by omega⟩
  obtain ⟨b, o, spot⟩ := a
  have hspot : spot = none := by simpa [Addr.add] using World.cell?_spot (hc 0 (by omega))
  subst hspot
  exact ⟨len, fun i => zs.getD i 0, Or.inr ⟨b, o, cap, rfl, fun i hi => by rw [← add_plain]; exact hc i (by omega)⟩, by omega⟩
/-- What is known of a glass's cells. -/
structure GlIn (W : World) (c0 c1 c2 c3 c4 c5 : Value) (s : ByteArray) (kd lo hi : Int) (n : Nat) (f : Nat → Int) (x : Nat) : Prop where
  e0 : c0 = .string s
  e1 : c1 = .int .i64 kd
  e2 : c2 = .int .i64 lo
  e3 : c3 = .int .i64 hi
  row : RdRow W c4 n f
  e5 : c5 = .float .f64 x
  hs : s.size ≤ 9223372036854775807
  hn : n ≤ 9223372036854775807
  hx : x < 18446744073709551616
theorem trod_glass {H : Type} {enc : TypeId × Value → H} {W : World} {base : Nat} {spare : Nat → Bool} {held : Bool} {fuel : Nat} {c0 c1 c2 c3 c4 c5 : Value} {x : DataW H × List MemPlace}
    (h : DataW.trod enc Tryd.prog W base spare held fuel 25 [c0, c1, c2, c3, c4, c5] = some x) : ∃ s kd lo hi n f x, GlIn W c0 c1 c2 c3 c4 c5 s kd lo hi n f x := by
  obtain ⟨xs, m, _, _, _, hlen, hx⟩ := DataW.trod_struct Tryd.underlying25 h
  have hl : xs.length = 6 := hlen
  have g0 := hx 0 _ rfl
  have g1 := hx 1 _ rfl
  have g2 := hx 2 _ rfl
  have g3 := hx 3 _ rfl
  have g4 := hx 4 _ rfl
  have g5 := hx 5 _ rfl
  rw [List.getElem?_eq_getElem (by omega)] at g0 g1 g2 g3 g4 g5
  change DataW.trod enc Tryd.prog W base spare held m 9 (([c0, c1, c2, c3, c4, c5].drop 0).take (Tryd.prog.cellsOf 9)) = _ at g0
  change DataW.trod enc Tryd.prog W base spare held m 2 (([c0, c1, c2, c3, c4, c5].drop 1).take (Tryd.prog.cellsOf 2)) = _ at g1
  change DataW.trod enc Tryd.prog W base spare held m 2 (([c0, c1, c2, c3, c4, c5].drop 2).take (Tryd.prog.cellsOf 2)) = _ at g2
  change DataW.trod enc Tryd.prog W base spare held m 2 (([c0, c1, c2, c3, c4, c5].drop 3).take (Tryd.prog.cellsOf 2)) = _ at g3
  change DataW.trod enc Tryd.prog W base spare held m 22 (([c0, c1, c2, c3, c4, c5].drop 4).take (Tryd.prog.cellsOf 22)) = _ at g4
  change DataW.trod enc Tryd.prog W base spare held m 23 (([c0, c1, c2, c3, c4, c5].drop 5).take (Tryd.prog.cellsOf 23)) = _ at g5
  rw [cells9] at g0
  rw [cells2] at g1 g2 g3
  rw [cells22] at g4
  rw [cells23] at g5
  obtain ⟨s, e0, _, ws⟩ := DataW.trod_string Tryd.underlying9 g0
  obtain ⟨kd, e1, _, _⟩ := DataW.trod_int Tryd.underlying2 g1
  obtain ⟨lo, e2, _, _⟩ := DataW.trod_int Tryd.underlying2 g2
  obtain ⟨hi, e3, _, _⟩ := DataW.trod_int Tryd.underlying2 g3
  obtain ⟨n, f, hr, hn⟩ := trod_row (c := c4) g4
  obtain ⟨y, e5, wy⟩ := trod_float Tryd.underlying23 g5
  simp at e0 e1 e2 e3 e5
  exact ⟨s, kd, lo, hi, n, f, y, e0, e1, e2, e3, hr, e5, by rw [maxLen_eq] at ws; exact ws, hn, f64_lt wy⟩
theorem array6 {c : Array Value} (h : c.size = 6) : ∃ c0 c1 c2 c3 c4 c5, c = #[c0, c1, c2, c3, c4, c5] := by
  obtain ⟨l⟩ := c
  match l, h with
  | [c0, c1, c2, c3, c4, c5], _ => exact ⟨c0, c1, c2, c3, c4, c5, rfl⟩
set_option maxRecDepth 100000 in
theorem open_glass {H : Type} {enc : TypeId × Value → H} {W : World} {base : Nat} {v : Value} {d : DataW H} {p : List MemPlace} (hv : Value.okWide Tryd.prog W .any base 25 v)
    (h : DataW.Trod enc Tryd.prog W 0 (fun _ => true) true 25 v d p) : ∃ (s : ByteArray) (kd lo hi : Int) (k : Value) (n : Nat) (f : Nat → Int) (x : Nat), v = .agg #[.string s, .int .i64 kd, .int .i64 lo, .int .i64 hi, k, .float .f64 x] ∧
      RdRow W k n f ∧ s.size ≤ 9223372036854775807 ∧ n ≤ 9223372036854775807 ∧ x < 18446744073709551616 := by
  obtain ⟨cs, hv2, hsz⟩ := okWide_struct Tryd.underlying25 hv
  subst hv2
  obtain ⟨c0, c1, c2, c3, c4, c5, rfl⟩ := array6 (hsz.trans cells25)
  obtain ⟨fuel, hf⟩ := h
  have hf' : DataW.trod enc Tryd.prog W 0 (fun _ => true) true fuel 25 [c0, c1, c2, c3, c4, c5] = some (d, p) := by simpa [Value.cells] using hf
  obtain ⟨s, kd, lo, hi, n, f, x, g⟩ := trod_glass hf'
  exact ⟨s, kd, lo, hi, c4, n, f, x, by rw [g.e0, g.e1, g.e2, g.e3, g.e5], g.row, g.hs, g.hn, g.hx⟩
def countsTab : List Int := [0, 6, 3]
def laid1 : List (String × DataW Unit) := [("loop.example/g00049/impl.glassCounts", Rows.laid_loop_example_g00049_impl_glassCounts)]
theorem tab_eq : (Rows.laid_loop_example_g00049_impl_glassCounts : DataW Unit) = Lib.tabData .i64 countsTab := by kernel_rfl
theorem gCounts : Tryd.prog.globalNamed "loop.example/g00049/impl.glassCounts" = some 0 := by kernel_rfl
theorem gCountsType : (Tryd.prog.globals[0]?).map (·.type) = some 64 := by kernel_rfl
theorem cells3 : Tryd.prog.cellsOf 3 = 1 := by kernel_rfl
theorem cells64 : Tryd.prog.cellsOf 64 = 3 := by kernel_rfl
theorem tab_head {W : World} {rest : List (String × DataW Unit)} (h : laidMet Tryd.prog (("loop.example/g00049/impl.glassCounts", Rows.laid_loop_example_g00049_impl_glassCounts) :: rest) W) : Tab W := by
  rw [tab_eq] at h
  have hT := Lib.tabIs_of_head gCounts gCountsType Tryd.underlying64 Tryd.underlying3 cells3 cells64 h
  exact ⟨by simpa [countsTab] using hT.cell gCounts 1 (by decide), by simpa [countsTab] using hT.cell gCounts 2 (by decide)⟩
theorem tab_of {W : World} (h : laidMetH Tryd.prog laid1 W) : Tab W := by
  rw [MakeChecks.laidMetH_plain _ _ _ (by kernel_rfl)] at h
  exact tab_head h
theorem door_met (os : Os) (args : Array Value) : laidMetH Tryd.prog laid1 ((World.doorLaid Tryd.prog 400 os).forCall (fun _ _ => 0) ⟨#[], args, []⟩).memory :=
  laidMetH_of_parts3 (fuel := 8) (laidMet_of_run' 8 (by kernel_rfl) (by kernel_rfl)) (by kernel_rfl) (by kernel_rfl)
end Go.Proofs.YtndfncjoknibaaaDoor
