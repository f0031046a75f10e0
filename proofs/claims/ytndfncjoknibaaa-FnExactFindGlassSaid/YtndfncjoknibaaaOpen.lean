/- How glasses that come in are opened; the program's table, as the rows lay it. -/
import Derived.Test.YtndfncjoknibaaaGc
import Derived.ProofKit
import Derived.OpenShut
import Derived.ShutString
import Derived.ChangeOld
import Derived.Below
import Derived.OpenVars
import Derived.Lib.SmallJoins
import Derived.Lib.LaidTab
import Derived.LaidMore
import Derived.Stop.Joined
import Derived.Stop.LaidErr
import Derived.SevenTiedAt
import Derived.MakeChecks
import Derived.Deep.Matrix
namespace Go.Proofs.Ytndfncjoknibaaa
open Go.ChangeShapes Go.WideShapes Go.ChangeAt Go.RowKit Go.Joins Go.Deep Fl
set_option linter.unusedVariables false
theorem own : ownKnob Try.prog.godebug = none := by kernel_rfl
theorem laidOut : laidOutB Try.prog = true := by kernel_rfl
theorem i64_hi {n : Int} (h : (Lit.int .i64 n).wf = true) : n ≤ 9223372036854775807 := by
  simp only [Lit.wf, Bool.and_eq_true, decide_eq_true_eq] at h
  have h2 : IntKind.i64.max = 9223372036854775807 := by decide
  omega
theorem i64_lo {n : Int} (h : (Lit.int .i64 n).wf = true) : -9223372036854775808 ≤ n := by
  simp only [Lit.wf, Bool.and_eq_true, decide_eq_true_eq] at h
  have h2 : IntKind.i64.min = -9223372036854775808 := by decide
  omega
theorem f64_lt {x : Nat} (h : (Lit.float .f64 x).wf = true) : x < 18446744073709551616 := by simpa [Lit.wf] using h
theorem cells2 : Try.prog.cellsOf 2 = 1 := by kernel_rfl
theorem cells9 : Try.prog.cellsOf 9 = 1 := by kernel_rfl
theorem cells22 : Try.prog.cellsOf 30 = 1 := by kernel_rfl
theorem cells23 : Try.prog.cellsOf 31 = 1 := by kernel_rfl
theorem cells25 : Try.prog.cellsOf 33 = 6 := by kernel_rfl
theorem maxLen_eq : maxLen = 9223372036854775807 := rfl
theorem trod_float {H : Type} {enc : TypeId × Value → H} {P : Program} {w : World} {base : Nat} {spare : Nat → Bool} {held : Bool} {t : TypeId} {fuel : Nat} {cs : List Value} {x : DataW H × List MemPlace} {k : FloatKind}
    (ht : P.underlying t = some (.float k)) (h : DataW.trod enc P w base spare held fuel t cs = some x) : ∃ n, cs = [.float k n] ∧ (Lit.float k n).wf = true := by
  cases fuel with
  | zero => simp [DataW.trod] at h
  | succ n =>
    unfold DataW.trod at h
    rw [ht] at h
    split at h <;> simp_all
/-- A slice of numbers that can be read. -/
theorem trod_row {H : Type} {enc : TypeId × Value → H} {W : World} {base : Nat} {spare : Nat → Bool} {held : Bool} {fuel : Nat} {c : Value} {x : DataW H × List MemPlace}
    (hf : DataW.trod enc Try.prog W base spare held fuel 30 [c] = some x) : ∃ (n : Nat) (f : Nat → Int), RdRow W c n f ∧ n ≤ 9223372036854775807 := by
  rcases open_ints Try.underlying30 Try.underlying2 cells2 hf with ⟨hcs0, _⟩ | ⟨a, len, cap, zs, hcs0, _, hl, hm, hz, _, hc, _⟩
  · simp at hcs0
    subst hcs0
    exact ⟨0, fun _ => 0, Or.inl ⟨_, _, rfl, rfl⟩, by omega⟩
  simp at hcs0
  subst hcs0
  rw [maxLen_eq] at hm
  have hz2 : len ≤ zs.length := by
    split at hz <;> omega
  by_cases h0 : len = 0
  · subst h0
    exact ⟨0, fun _ => 0, Or.inl ⟨_, _, rfl, rfl⟩, by omega⟩
  obtain ⟨b, o, spot⟩ := a
  have hspot : spot = none := by simpa [Addr.add] using World.cell?_spot (hc 0 (by omega))
  subst hspot
  exact ⟨len, fun i => zs.getD i 0, Or.inr ⟨b, o, cap, rfl, fun i hi => by rw [← add_plain]; exact hc i (by omega)⟩, by omega⟩
/-- What is known of a glass's cells. -/
structure GlIn (W : World) (c0 c1 c2 c3 c4 c5 : Value) (s : ByteArray) (kd lo hi : Int) (n : Nat) (f : Nat → Int) (x : Nat) : Prop where
  e0 : c0 = .string s
  e1 : c1 = .int .i64 kd
  e2 : c2 = .int .i64 lo
  e3 : c3 = .int .i64 hi
  row : RdRow W c4 n f
  e5 : c5 = .float .f64 x
  hs : s.size ≤ 9223372036854775807
  hn : n ≤ 9223372036854775807
  hx : x < 18446744073709551616
theorem trod_glass {H : Type} {enc : TypeId × Value → H} {W : World} {base : Nat} {spare : Nat → Bool} {held : Bool} {fuel : Nat} {c0 c1 c2 c3 c4 c5 : Value} {x : DataW H × List MemPlace}
    (h : DataW.trod enc Try.prog W base spare held fuel 33 [c0, c1, c2, c3, c4, c5] = some x) : ∃ s kd lo hi n f x, GlIn W c0 c1 c2 c3 c4 c5 s kd lo hi n f x := by
  obtain ⟨xs, m, _, _, _, hlen, hx⟩ := DataW.trod_struct Try.underlying33 h
  have hl : xs.length = 6 := hlen
  have g0 := hx 0 _ rfl
  have g1 := hx 1 _ rfl
  have g2 := hx 2 _ rfl
  have g3 := hx 3 _ rfl
  have g4 := hx 4 _ rfl
  have g5 := hx 5 _ rfl
  rw [List.getElem?_eq_getElem (by omega)] at g0 g1 g2 g3 g4 g5
  change DataW.trod enc Try.prog W base spare held m 9 (([c0, c1, c2, c3, c4, c5].drop 0).take (Try.prog.cellsOf 9)) = _ at g0
  change DataW.trod enc Try.prog W base spare held m 2 (([c0, c1, c2, c3, c4, c5].drop 1).take (Try.prog.cellsOf 2)) = _ at g1
  change DataW.trod enc Try.prog W base spare held m 2 (([c0, c1, c2, c3, c4, c5].drop 2).take (Try.prog.cellsOf 2)) = _ at g2
  change DataW.trod enc Try.prog W base spare held m 2 (([c0, c1, c2, c3, c4, c5].drop 3).take (Try.prog.cellsOf 2)) = _ at g3
  change DataW.trod enc Try.prog W base spare held m 30 (([c0, c1, c2, c3, c4, c5].drop 4).take (Try.prog.cellsOf 30)) = _ at g4
  change DataW.trod enc Try.prog W base spare held m 31 (([c0, c1, c2, c3, c4, c5].drop 5).take (Try.prog.cellsOf 31)) = _ at g5
  rw [cells9] at g0
  rw [cells2] at g1 g2 g3
  rw [cells22] at g4
  rw [cells23] at g5
  obtain ⟨s, e0, _, ws⟩ := DataW.trod_string Try.underlying9 g0
  obtain ⟨kd, e1, _, _⟩ := DataW.trod_int Try.underlying2 g1
  obtain ⟨lo, e2, _, _⟩ := DataW.trod_int Try.underlying2 g2
  obtain ⟨hi, e3, _, _⟩ := DataW.trod_int Try.underlying2 g3
  obtain ⟨n, f, hr, hn⟩ := trod_row (c := c4) g4
  obtain ⟨y, e5, wy⟩ := trod_float Try.underlying31 g5
  simp at e0 e1 e2 e3 e5
  exact ⟨s, kd, lo, hi, n, f, y, e0, e1, e2, e3, hr, e5, by rw [maxLen_eq] at ws; exact ws, hn, f64_lt wy⟩
end Go.Proofs.Ytndfncjoknibaaa
