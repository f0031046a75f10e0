/- Lists of spans: how one that comes in is opened; what is owned: copies, comparisons, marks, and what holds them. -/
import Derived.Test.YtelejihgechmgaaArgrow
import Derived.Test.YtelejihgechmgaaSs
namespace Go.Proofs.Ytelejihgechmgaa
open Go.ChangeShapes Go.WideShapes Go.ChangeAt Go.RowKit Go.Joins Go.Deep
set_option linter.unusedVariables false
set_option linter.unusedSimpArgs false
theorem cells79 : Try.prog.cellsOf 79 = 4 := by kernel_rfl
theorem rdv_of {α : Type} {W : World} {a : Addr} {len cap m : Nat} (hm : 0 < m) (h0 : 0 < len) (dflt : α) (f : α → Nat → Value) (Q : α → Prop)
    (each : ∀ i, i < len → ∃ g : α, Q g ∧ ∀ j, j < m → W.cell? ((a.add (i * m)).add j) = some (f g j)) :
    ∃ G : Nat → α, RdV W (.slice (some a) len cap) len m (fun i j => f (G i) j) ∧ ∀ i, i < len → Q (G i) := by
  obtain ⟨b, o, spot⟩ := a
  have hspot : spot = none := by
    obtain ⟨g, _, h1⟩ := each 0 h0
    simpa [Addr.add] using World.cell?_spot (h1 0 hm)
  subst hspot
  have each' : ∀ i, i < len → ∃ g : α, Q g ∧ ∀ j, j < m → W.cell? ⟨b, o + i * m + j, none⟩ = some (f g j) := fun i hi => by
    obtain ⟨g, h1, h2⟩ := each i hi
    refine ⟨g, h1, fun j hj => ?_⟩
    have := h2 j hj
    rw [add_plain, add_plain] at this
    exact this
  refine ⟨fun i => if hi : i < len then (each' i hi).choose else dflt, Or.inr ⟨b, o, cap, rfl, fun i hi j hj => ?_⟩, fun i hi => ?_⟩
  · have := (each' i hi).choose_spec.2 j hj
    simp only [hi, dif_pos]
    exact this
  · have := (each' i hi).choose_spec.1
    simp only [hi, dif_pos]
    exact this
set_option maxRecDepth 100000 in
theorem trod_sp {H : Type} {enc : TypeId × Value → H} {W : World} {base : Nat} {spare : Nat → Bool} {held : Bool} {fuel : Nat} {c0 c1 c2 c3 : Value} {x : DataW H × List MemPlace}
    (hf : DataW.trod enc Try.prog W base spare held fuel 79 [c0, c1, c2, c3] = some x) : ∃ g : Mt.Sp, c0 = .int .i64 g.km ∧ -9223372036854775808 ≤ g.km ∧ g.km ≤ 9223372036854775807 ∧ c1 = .int .i64 g.loss ∧ -9223372036854775808 ≤ g.loss ∧ g.loss ≤ 9223372036854775807 ∧ c2 = .int .i64 g.gain ∧ -9223372036854775808 ≤ g.gain ∧ g.gain ≤ 9223372036854775807 ∧ c3 = .int .i64 g.tilt ∧ -9223372036854775808 ≤ g.tilt ∧ g.tilt ≤ 9223372036854775807 := by
  obtain ⟨xs, m, _, _, _, hlen, hx⟩ := DataW.trod_struct Try.underlying79 hf
  have hl : xs.length = 4 := hlen
  have g0 := hx 0 _ rfl
  have g1 := hx 1 _ rfl
  have g2 := hx 2 _ rfl
  have g3 := hx 3 _ rfl
  rw [List.getElem?_eq_getElem (by omega)] at g0 g1 g2 g3
  change DataW.trod enc Try.prog W base spare held m 2 (([c0, c1, c2, c3].drop 0).take (Try.prog.cellsOf 2)) = _ at g0
  change DataW.trod enc Try.prog W base spare held m 2 (([c0, c1, c2, c3].drop 1).take (Try.prog.cellsOf 2)) = _ at g1
  change DataW.trod enc Try.prog W base spare held m 2 (([c0, c1, c2, c3].drop 2).take (Try.prog.cellsOf 2)) = _ at g2
  change DataW.trod enc Try.prog W base spare held m 2 (([c0, c1, c2, c3].drop 3).take (Try.prog.cellsOf 2)) = _ at g3
  rw [cells2] at g0 g1 g2 g3
  obtain ⟨a0, e0, _, b0⟩ := DataW.trod_int Try.underlying2 g0
  obtain ⟨a1, e1, _, b1⟩ := DataW.trod_int Try.underlying2 g1
  obtain ⟨a2, e2, _, b2⟩ := DataW.trod_int Try.underlying2 g2
  obtain ⟨a3, e3, _, b3⟩ := DataW.trod_int Try.underlying2 g3
  simp at e0 e1 e2 e3
  exact ⟨⟨a0, a1, a2, a3⟩, e0, i64_lo b0, i64_hi b0, e1, i64_lo b1, i64_hi b1, e2, i64_lo b2, i64_hi b2, e3, i64_lo b3, i64_hi b3⟩
/-- v is a list of n spans, to be read. -/
abbrev Rsp (w : World) (v : Value) (n : Nat) (S : Nat → Mt.Sp) : Prop := RdV w v n 4 (fun i j => scell (S i) j)
set_option maxRecDepth 100000 in
theorem trod_sps {H : Type} {enc : TypeId × Value → H} {W : World} {base : Nat} {spare : Nat → Bool} {held : Bool} {fuel : Nat} {c : Value} {x : DataW H × List MemPlace}
    (hf : DataW.trod enc Try.prog W base spare held fuel 22 [c] = some x) : ∃ (n : Nat) (G : Nat → Mt.Sp), Rsp W c n G ∧ n ≤ 9223372036854775807 := by
  rcases DataW.trod_slice Try.underlying22 hf with ⟨hcs0, _⟩ | ⟨a, len, cap, elems, rest, n, _, hcs0, _, _, hl, hm, hlen, hel, _, _⟩
  · simp at hcs0
    subst hcs0
    exact ⟨0, fun _ => zsp, Or.inl ⟨_, _, rfl, rfl⟩, by omega⟩
  simp at hcs0
  subst hcs0
  unfold maxLen at hm
  by_cases h0 : len = 0
  · subst h0
    exact ⟨0, fun _ => zsp, Or.inl ⟨_, _, rfl, rfl⟩, by omega⟩
  obtain ⟨G, h1, h2⟩ := rdv_of (W := W) (a := a) (len := len) (cap := cap) (m := 4) (by omega) (by omega) zsp scell (fun _ => True) (by
    intro i hi
    have h1 := hel i hi
    rw [cells79] at h1
    obtain ⟨y, hy⟩ : ∃ y, elems[i]? = some y := ⟨elems[i]'(by omega), List.getElem?_eq_getElem (by omega)⟩
    rw [hy, Option.bind_eq_some_iff] at h1
    obtain ⟨cs', hcs, hy'⟩ := h1
    obtain ⟨_, hcl, hce⟩ := World.cells?_some hcs
    match cs', hcl with
    | [c0, c1, c2, c3], _ =>
      obtain ⟨g, e0, _, _, e1, _, _, e2, _, _, e3, _, _⟩ := trod_sp hy'
      refine ⟨g, trivial, fun j hj => ?_⟩
      have e := hce j hj
      rw [e0, e1, e2, e3] at e
      match j, hj with
      | 0, _ => exact e
      | 1, _ => exact e
      | 2, _ => exact e
      | 3, _ => exact e)
  exact ⟨len, G, h1, by omega⟩
set_option maxRecDepth 100000 in
theorem open_spans {H : Type} {enc : TypeId × Value → H} {W : World} {base : Nat} {v : Value} {d : DataW H} {p : List MemPlace} (hv : Value.okWide Try.prog W .any base 22 v)
    (h : DataW.Trod enc Try.prog W 0 (fun _ => true) true 22 v d p) : ∃ (n : Nat) (F : Nat → Mt.Sp), Rsp W v n F ∧ n ≤ 9223372036854775807 := by
  obtain ⟨a0, len, cap, rfl⟩ := okWide_slice Try.underlying22 hv
  obtain ⟨m, hm⟩ := h
  exact trod_sps (c := .slice a0 len cap) (by simpa [Value.cells] using hm)
/-- A list of spans in memory of its own. -/
structure OwS (lo hi : Nat) (w : World) (g n : Nat) (S : Nat → Mt.Sp) : Prop where
  lo : lo ≤ g
  hi : g < hi
  seg : SegV w g 75 n 4 (fun i j => scell (S i) j)
theorem OwS.rd {lo hi : Nat} {w : World} {g n cap : Nat} {F : Nat → Mt.Sp} (h : OwS lo hi w g n F) : Rsp w (.slice (some ⟨g, 0, none⟩) n cap) n F := h.seg.rd
theorem OwS.keep {lo hi : Nat} {w w' : World} {g n : Nat} {F : Nat → Mt.Sp} (h : OwS lo hi w g n F) (hk : Keep lo hi w w') : OwS lo hi w' g n F := ⟨h.lo, h.hi, h.seg.of_block (hk g h.lo h.hi)⟩
theorem toSpans_any {w : World} {v : Value} {n : Nat} {F : Nat → Mt.Sp} (h : Rsp w v n F) (hn : n ≤ 1048576) :
    Calls Try.prog 15 #[v] w fun e w' => e = .returned (.slice (some ⟨w.heap.size, 0, none⟩) n n) ∧ OwS w.heap.size w'.heap.size w' w.heap.size n F ∧ Below w.heap.size w w' :=
  Calls.mono (toSps_any h (by omega)) fun e w' ⟨e1, h1, h2⟩ => ⟨e1, ⟨Nat.le_refl _, h1.lt, h1⟩, h2⟩
theorem eqSpans_any {lo hi lo' hi' : Nat} {w : World} {g g' n cp cp' : Nat} {F : Nat → Mt.Sp} (h : OwS lo hi w g n F) (k : OwS lo' hi' w g' n F) (hn : n ≤ 1048576) :
    Calls Try.prog 18 #[.slice (some ⟨g, 0, none⟩) n cp, .slice (some ⟨g', 0, none⟩) n cp'] w fun e w' => e = .returned (.bool true) ∧ Below w.heap.size w w' := eqSps_same g cp g' cp' n F w (by omega) h.seg k.seg
theorem markSpans_any {lo hi : Nat} {w : World} {g n cp : Nat} {F : Nat → Mt.Sp} (k0 : Int) (h : OwS lo hi w g n F) (h0 : 0 ≤ k0) (h1 : k0 ≤ 100000000) (hn : n ≤ 1048576) :
    Calls Try.prog 19 #[.slice (some ⟨g, 0, none⟩) n cp, .int .i64 k0] w fun e w' => e = .returned (.int .i64 (mSp k0 n)) ∧ Within lo hi w w' :=
  Calls.mono (markSp_some g n cp k0 _ w hn h0 h1 h.seg) fun e w' ⟨e1, _, h3, _⟩ => ⟨e1, h3.mono h.lo h.hi⟩
end Go.Proofs.Ytelejihgechmgaa
