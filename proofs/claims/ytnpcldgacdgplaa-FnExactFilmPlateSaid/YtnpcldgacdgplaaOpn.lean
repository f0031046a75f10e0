/- Memory that holds rows of values of several cells each: what is read, what is owned. Plain laws on worlds. How lights and stacks that come in are opened. -/
import Derived.Test.YtnpcldgacdgplaaMrow
import Derived.Test.YtnpcldgacdgplaaOpenZ
import Derived.Test.YtnpcldgacdgplaaLf
import Derived.Deep.Matrix
namespace Go.Proofs.Ytnpcldgacdgplaa
open Go.RowKit Fl
/-- v is a slice of n values of m cells, to be read. -/
def RdV (w : World) (v : Value) (n m : Nat) (f : Nat → Nat → Value) : Prop :=
  (∃ ao cap, v = .slice ao 0 cap ∧ n = 0) ∨ ∃ b off cap, v = .slice (some ⟨b, off, none⟩) n cap ∧ ∀ i, i < n → ∀ j, j < m → w.cell? ⟨b, off + i * m + j, none⟩ = some (f i j)
theorem RdV.later {w w' : World} {v : Value} {n m : Nat} {f : Nat → Nat → Value} (h : RdV w v n m f) (hb : Below w.heap.size w w') : RdV w' v n m f := by
  rcases h with h | ⟨b, off, cap, rfl, h⟩
  · exact Or.inl h
  · exact Or.inr ⟨b, off, cap, rfl, fun i hi j hj => (hb.cell (World.block_lt_of_cell? _ _ (h i hi j hj))).trans (h i hi j hj)⟩
theorem RdV.form {w : World} {v : Value} {n m : Nat} {f : Nat → Nat → Value} (h : RdV w v n m f) : ∃ ao cap, v = .slice ao n cap := by
  rcases h with ⟨ao, cap, rfl, rfl⟩ | ⟨b, off, cap, rfl, _⟩
  · exact ⟨ao, cap, rfl⟩
  · exact ⟨_, cap, rfl⟩
/-- Block b is a row of n values of m cells, none frozen. -/
def SegV (w : World) (b : Nat) (t : TypeId) (n m : Nat) (f : Nat → Nat → Value) : Prop :=
  ∃ c : Array Value, w.heap[b]? = some (.cells c t (0, 0)) ∧ ∀ i, i < n → ∀ j, j < m → c[i * m + j]? = some (f i j)
namespace SegV
variable {w : World} {b : Nat} {t : TypeId} {n m : Nat} {f g : Nat → Nat → Value}
theorem cell (h : SegV w b t n m f) {i j : Nat} (hi : i < n) (hj : j < m) : w.cell? ⟨b, i * m + j, none⟩ = some (f i j) := by
  obtain ⟨c, hb, hc⟩ := h
  simp [World.cell?, hb, hc i hi j hj]
theorem frozen (h : SegV w b t n m f) (i : Nat) : w.frozen? ⟨b, i, none⟩ = false := by
  obtain ⟨c, hb, _⟩ := h
  simp [World.frozen?, hb]
theorem lt (h : SegV w b t n m f) : b < w.heap.size := by
  obtain ⟨c, hb, _⟩ := h
  exact (Array.getElem?_eq_some_iff.1 hb).1
theorem congr (h : SegV w b t n m f) (e : ∀ i, i < n → ∀ j, j < m → f i j = g i j) : SegV w b t n m g := by
  obtain ⟨c, hb, hc⟩ := h
  exact ⟨c, hb, fun i hi j hj => by rw [hc i hi j hj, e i hi j hj]⟩
theorem of_block {w' : World} (h : SegV w b t n m f) (e : w'.heap[b]? = w.heap[b]?) : SegV w' b t n m f := by
  obtain ⟨c, hb, hc⟩ := h
  exact ⟨c, e.trans hb, hc⟩
theorem below {w' : World} (h : SegV w b t n m f) (hb : Below w.heap.size w w') : SegV w' b t n m f := h.of_block (hb.block _ h.lt)
theorem set (h : SegV w b t n m f) {k l : Nat} (hk : k < n) (hl : l < m) (x : Value) : SegV (w.setCell ⟨b, k * m + l, none⟩ x) b t n m (fun i j => if i = k ∧ j = l then x else f i j) := by
  obtain ⟨c, hb, hc⟩ := h
  refine ⟨c.setIfInBounds (k * m + l) x, ?_, fun i hi j hj => ?_⟩
  · simp [World.setCell, Array.getElem?_modify, hb]
  · have hs : k * m + l < c.size := (Array.getElem?_eq_some_iff.1 (hc k hk l hl)).1
    rw [Array.getElem?_setIfInBounds]
    by_cases e : i = k ∧ j = l
    · obtain ⟨rfl, rfl⟩ := e
      simp [hs]
    · rw [if_neg (fun h => e (by have := idx_inj hl hj h; exact ⟨this.1.symm, this.2.symm⟩))]
      simp only [e, if_false]
      exact hc i hi j hj
end SegV
theorem SegV.rd {w : World} {b : Nat} {t : TypeId} {n m cap : Nat} {f : Nat → Nat → Value} (h : SegV w b t n m f) : RdV w (.slice (some ⟨b, 0, none⟩) n cap) n m f :=
  Or.inr ⟨b, 0, cap, rfl, fun i hi j hj => by rw [Nat.zero_add]; exact h.cell hi hj⟩
theorem SegV.keep {w w' : World} {b B : Nat} {t : TypeId} {n m : Nat} {f : Nat → Nat → Value} (h : SegV w b t n m f) (k : Below B w w') (hb : b < B) : SegV w' b t n m f := h.of_block (k.block _ hb)
theorem RdV.keep {w w' : World} {v : Value} {B n m : Nat} {f : Nat → Nat → Value} (h : RdV w v n m f) (k : Below B w w') (hv : ∀ b off cap, v = .slice (some ⟨b, off, none⟩) n cap → b < B) : RdV w' v n m f := by
  rcases h with h | ⟨b, off, cap, rfl, h⟩
  · exact Or.inl h
  · exact Or.inr ⟨b, off, cap, rfl, fun i hi j hj => (k.cell (hv b off cap rfl)).trans (h i hi j hj)⟩
end Go.Proofs.Ytnpcldgacdgplaa
namespace Go.Proofs.Ytnpcldgacdgplaa
open Go.ChangeShapes Go.WideShapes Go.ChangeAt Go.RowKit Go.Joins Go.Deep Fl
set_option linter.unusedVariables false
/-- A film. -/
structure Fi where
  i : Nat
  k : Nat
  t : Int
def fcell (g : Fi) (j : Nat) : Value := if j = 0 then .float .f64 g.i else if j = 1 then .float .f64 g.k else .int .i64 g.t
theorem fcell_0 (g : Fi) : fcell g 0 = .float .f64 g.i := rfl
theorem fcell_1 (g : Fi) : fcell g 1 = .float .f64 g.k := rfl
theorem fcell_2 (g : Fi) : fcell g 2 = .int .i64 g.t := rfl
abbrev Fv (g : Fi) : Value := .agg #[.float .f64 g.i, .float .f64 g.k, .int .i64 g.t]
structure FiOk (g : Fi) : Prop where
  hi : g.i < 18446744073709551616
  hk : g.k < 18446744073709551616
theorem maxLen_eq : maxLen = 9223372036854775807 := rfl
theorem cells2 : Try.prog.cellsOf 2 = 1 := by kernel_rfl
theorem cells22 : Try.prog.cellsOf 22 = 1 := by kernel_rfl
theorem cells23 : Try.prog.cellsOf 23 = 1 := by kernel_rfl
theorem cells35 : Try.prog.cellsOf 35 = 3 := by kernel_rfl
theorem cells25 : Try.prog.cellsOf 25 = 3 := by kernel_rfl
theorem cells87 : Try.prog.cellsOf 87 = 3 := by kernel_rfl
theorem array3 {c : Array Value} (h : c.size = 3) : ∃ c0 c1 c2, c = #[c0, c1, c2] := by
  obtain ⟨l⟩ := c
  match l, h with
  | [c0, c1, c2], _ => exact ⟨c0, c1, c2, rfl⟩
theorem trod_light {H : Type} {enc : TypeId × Value → H} {W : World} {base : Nat} {spare : Nat → Bool} {held : Bool} {fuel : Nat} {c0 c1 c2 : Value} {x : DataW H × List MemPlace}
    (h : DataW.trod enc Try.prog W base spare held fuel 35 [c0, c1, c2] = some x) : ∃ (nm : Int) (side : Nat) (pol : Int), c0 = .int .i64 nm ∧ c1 = .float .f64 side ∧ c2 = .int .i64 pol ∧ side < 18446744073709551616 := by
  obtain ⟨xs, m, _, _, _, hlen, hx⟩ := DataW.trod_struct Try.underlying35 h
  have hl : xs.length = 3 := hlen
  have g0 := hx 0 _ rfl
  have g1 := hx 1 _ rfl
  have g2 := hx 2 _ rfl
  rw [List.getElem?_eq_getElem (by omega)] at g0 g1 g2
  change DataW.trod enc Try.prog W base spare held m 2 (([c0, c1, c2].drop 0).take (Try.prog.cellsOf 2)) = _ at g0
  change DataW.trod enc Try.prog W base spare held m 22 (([c0, c1, c2].drop 1).take (Try.prog.cellsOf 22)) = _ at g1
  change DataW.trod enc Try.prog W base spare held m 2 (([c0, c1, c2].drop 2).take (Try.prog.cellsOf 2)) = _ at g2
  rw [cells2] at g0 g2
  rw [cells22] at g1
  obtain ⟨a, e0, _, _⟩ := DataW.trod_int Try.underlying2 g0
  obtain ⟨y, e1, wy⟩ := trod_float Try.underlying22 g1
  obtain ⟨b, e2, _, _⟩ := DataW.trod_int Try.underlying2 g2
  simp at e0 e1 e2
  exact ⟨a, y, b, e0, e1, e2, f64_lt wy⟩
set_option maxRecDepth 100000 in
theorem open_light {H : Type} {enc : TypeId × Value → H} {W : World} {base : Nat} {v : Value} {d : DataW H} {p : List MemPlace} (hv : Value.okWide Try.prog W .any base 35 v)
    (h : DataW.Trod enc Try.prog W 0 (fun _ => true) true 35 v d p) : ∃ (nm : Int) (side : Nat) (pol : Int), v = Lv nm side pol ∧ side < 18446744073709551616 := by
  obtain ⟨cs, rfl, hsz⟩ := okWide_struct Try.underlying35 hv
  obtain ⟨c0, c1, c2, rfl⟩ := array3 (hsz.trans cells35)
  obtain ⟨fuel, hf⟩ := h
  have hf' : DataW.trod enc Try.prog W 0 (fun _ => true) true fuel 35 [c0, c1, c2] = some (d, p) := by simpa [Value.cells] using hf
  obtain ⟨a, y, b, rfl, rfl, rfl, hy⟩ := trod_light hf'
  exact ⟨a, y, b, rfl, hy⟩
theorem trod_film {H : Type} {enc : TypeId × Value → H} {W : World} {base : Nat} {spare : Nat → Bool} {held : Bool} {fuel : Nat} {c0 c1 c2 : Value} {x : DataW H × List MemPlace}
    (h : DataW.trod enc Try.prog W base spare held fuel 87 [c0, c1, c2] = some x) : ∃ g : Fi, c0 = .float .f64 g.i ∧ c1 = .float .f64 g.k ∧ c2 = .int .i64 g.t ∧ FiOk g := by
  obtain ⟨xs, m, _, _, _, hlen, hx⟩ := DataW.trod_struct Try.underlying87 h
  have hl : xs.length = 3 := hlen
  have g0 := hx 0 _ rfl
  have g1 := hx 1 _ rfl
  have g2 := hx 2 _ rfl
  rw [List.getElem?_eq_getElem (by omega)] at g0 g1 g2
  change DataW.trod enc Try.prog W base spare held m 22 (([c0, c1, c2].drop 0).take (Try.prog.cellsOf 22)) = _ at g0
  change DataW.trod enc Try.prog W base spare held m 22 (([c0, c1, c2].drop 1).take (Try.prog.cellsOf 22)) = _ at g1
  change DataW.trod enc Try.prog W base spare held m 2 (([c0, c1, c2].drop 2).take (Try.prog.cellsOf 2)) = _ at g2
  rw [cells2] at g2
  rw [cells22] at g0 g1
  obtain ⟨a, e0, wa⟩ := trod_float Try.underlying22 g0
  obtain ⟨b, e1, wb⟩ := trod_float Try.underlying22 g1
  obtain ⟨z, e2, _, _⟩ := DataW.trod_int Try.underlying2 g2
  simp at e0 e1 e2
  exact ⟨⟨a, b, z⟩, e0, e1, e2, f64_lt wa, f64_lt wb⟩
/-- A row of values out of what is known of each. -/
theorem rdv_of {W : World} {a : Addr} {len cap m : Nat} (h0 : 0 < len) (hm : 0 < m) {α : Type} (dflt : α) (f : α → Nat → Value) (Q : α → Prop) (each : ∀ i, i < len → ∃ g : α, Q g ∧ ∀ j, j < m → W.cell? ((a.add (i * m)).add j) = some (f g j)) :
    ∃ G : Nat → α, RdV W (.slice (some a) len cap) len m (fun i j => f (G i) j) ∧ ∀ i, i < len → Q (G i) := by
  obtain ⟨b, o, spot⟩ := a
  have hspot : spot = none := by
    obtain ⟨g, _, h1⟩ := each 0 h0
    simpa [Addr.add] using World.cell?_spot (h1 0 hm)
  subst hspot
  have each' : ∀ i, i < len → ∃ g : α, Q g ∧ ∀ j, j < m → W.cell? ⟨b, o + i * m + j, none⟩ = some (f g j) := fun i hi => by
    obtain ⟨g, h1, h2⟩ := each i hi
    refine ⟨g, h1, fun j hj => ?_⟩
    have := h2 j hj
    rw [add_plain, add_plain] at this
    exact this
  refine ⟨fun i => if hi : i < len then (each' i hi).choose else dflt, Or.inr ⟨b, o, cap, rfl, fun i hi j hj => ?_⟩, fun i hi => ?_⟩
  · have := (each' i hi).choose_spec.2 j hj
    simp only [hi, dif_pos]
    exact this
  · have := (each' i hi).choose_spec.1
    simp only [hi, dif_pos]
    exact this

set_option maxRecDepth 100000 in
theorem trod_films {H : Type} {enc : TypeId × Value → H} {W : World} {base : Nat} {spare : Nat → Bool} {held : Bool} {fuel : Nat} {c : Value} {x : DataW H × List MemPlace}
    (hf : DataW.trod enc Try.prog W base spare held fuel 23 [c] = some x) : ∃ (n : Nat) (G : Nat → Fi), RdV W c n 3 (fun i j => fcell (G i) j) ∧ n ≤ 9223372036854775807 ∧ ∀ i, i < n → FiOk (G i) := by
  rcases DataW.trod_slice Try.underlying23 hf with ⟨hcs0, _⟩ | ⟨a, len, cap, elems, rest, n, _, hcs0, _, _, hl, hm, hlen, hel, _, _⟩
  · simp at hcs0
    subst hcs0
    exact ⟨0, fun _ => ⟨0, 0, 0⟩, Or.inl ⟨_, _, rfl, rfl⟩, by omega, fun i hi => by omega⟩
  simp at hcs0
  subst hcs0
  rw [maxLen_eq] at hm
  by_cases h0 : len = 0
  · subst h0
    exact ⟨0, fun _ => ⟨0, 0, 0⟩, Or.inl ⟨_, _, rfl, rfl⟩, by omega, fun i hi => by omega⟩
  obtain ⟨G, h1, h2⟩ := rdv_of (W := W) (a := a) (len := len) (cap := cap) (m := 3) (by omega) (by omega) ⟨0, 0, 0⟩ fcell FiOk (by
    intro i hi
    have h1 := hel i hi
    rw [cells87] at h1
    obtain ⟨y, hy⟩ : ∃ y, elems[i]? = some y := ⟨elems[i]'(by omega), List.getElem?_eq_getElem (by omega)⟩
    rw [hy, Option.bind_eq_some_iff] at h1
    obtain ⟨cs', hcs, hy'⟩ := h1
    obtain ⟨_, hcl, hce⟩ := World.cells?_some hcs
    match cs', hcl with
    | [c0, c1, c2], _ =>
      obtain ⟨g, e0, e1, e2, ok⟩ := trod_film hy'
      refine ⟨g, ok, fun j hj => ?_⟩
      have e := hce j hj
      rw [e0, e1, e2] at e
      match j, hj with
      | 0, _ => exact e
      | 1, _ => exact e
      | 2, _ => exact e)
  exact ⟨len, G, h1, by omega, h2⟩
/-- A stack. -/
abbrev Sv (i o : Nat) (v : Value) : Value := .agg #[.float .f64 i, .float .f64 o, v]
set_option maxRecDepth 100000 in
theorem open_stack {H : Type} {enc : TypeId × Value → H} {W : World} {base : Nat} {v : Value} {d : DataW H} {p : List MemPlace} (hv : Value.okWide Try.prog W .any base 25 v)
    (h : DataW.Trod enc Try.prog W 0 (fun _ => true) true 25 v d p) : ∃ (i o : Nat) (c : Value) (n : Nat) (G : Nat → Fi), v = Sv i o c ∧ i < 18446744073709551616 ∧ o < 18446744073709551616 ∧ RdV W c n 3 (fun i j => fcell (G i) j) ∧ n ≤ 9223372036854775807 ∧ ∀ i, i < n → FiOk (G i) := by
  obtain ⟨cs, rfl, hsz⟩ := okWide_struct Try.underlying25 hv
  obtain ⟨c0, c1, c2, rfl⟩ := array3 (hsz.trans cells25)
  obtain ⟨fuel, hf⟩ := h
  have hf' : DataW.trod enc Try.prog W 0 (fun _ => true) true fuel 25 [c0, c1, c2] = some (d, p) := by simpa [Value.cells] using hf
  obtain ⟨xs, m, _, _, _, hlen, hx⟩ := DataW.trod_struct Try.underlying25 hf'
  have hl : xs.length = 3 := hlen
  have g0 := hx 0 _ rfl
  have g1 := hx 1 _ rfl
  have g2 := hx 2 _ rfl
  rw [List.getElem?_eq_getElem (by omega)] at g0 g1 g2
  change DataW.trod enc Try.prog W 0 (fun _ => true) true m 22 (([c0, c1, c2].drop 0).take (Try.prog.cellsOf 22)) = _ at g0
  change DataW.trod enc Try.prog W 0 (fun _ => true) true m 22 (([c0, c1, c2].drop 1).take (Try.prog.cellsOf 22)) = _ at g1
  change DataW.trod enc Try.prog W 0 (fun _ => true) true m 23 (([c0, c1, c2].drop 2).take (Try.prog.cellsOf 23)) = _ at g2
  rw [cells22] at g0 g1
  rw [cells23] at g2
  obtain ⟨a, e0, wa⟩ := trod_float Try.underlying22 g0
  obtain ⟨b, e1, wb⟩ := trod_float Try.underlying22 g1
  obtain ⟨n, G, r, hn, ok⟩ := trod_films (c := c2) g2
  simp at e0 e1
  subst e0 e1
  exact ⟨a, b, c2, n, G, rfl, f64_lt wa, f64_lt wb, r, hn, ok⟩
end Go.Proofs.Ytnpcldgacdgplaa
