/- Lists of guards: how one that comes in is opened; what is owned: copies, comparisons, marks. -/
import Derived.Test.YtinfbbbgfkaioaaGd
import Derived.Test.YtinfbbbgfkaioaaOn
namespace Go.Proofs.Ytinfbbbgfkaioaa
open Go.ChangeShapes Go.WideShapes Go.ChangeAt Go.RowKit Go.Joins Go.Deep
set_option linter.unusedVariables false
set_option linter.unusedSimpArgs false
theorem cells94 : Try.prog.cellsOf 83 = 2 := by kernel_rfl
set_option maxRecDepth 100000 in
theorem trod_gu {H : Type} {enc : TypeId × Value → H} {W : World} {base : Nat} {spare : Nat → Bool} {held : Bool} {fuel : Nat} {c0 c1 : Value} {x : DataW H × List MemPlace}
    (hf : DataW.trod enc Try.prog W base spare held fuel 83 [c0, c1] = some x) : ∃ g : Gu, c0 = .int .i64 g.wk ∧ c1 = .int .i64 g.sp := by
  obtain ⟨xs, m, _, _, _, hlen, hx⟩ := DataW.trod_struct Try.underlying83 hf
  have hl : xs.length = 2 := hlen
  have g0 := hx 0 _ rfl
  have g1 := hx 1 _ rfl
  rw [List.getElem?_eq_getElem (by omega)] at g0 g1
  change DataW.trod enc Try.prog W base spare held m 2 (([c0, c1].drop 0).take (Try.prog.cellsOf 2)) = _ at g0
  change DataW.trod enc Try.prog W base spare held m 2 (([c0, c1].drop 1).take (Try.prog.cellsOf 2)) = _ at g1
  rw [cells2] at g0 g1
  obtain ⟨a, e0, _, _⟩ := DataW.trod_int Try.underlying2 g0
  obtain ⟨b, e1, _, _⟩ := DataW.trod_int Try.underlying2 g1
  simp at e0 e1
  exact ⟨⟨a, b⟩, e0, e1⟩
set_option maxRecDepth 100000 in
theorem open_guards {H : Type} {enc : TypeId × Value → H} {W : World} {base : Nat} {v : Value} {d : DataW H} {p : List MemPlace} (hv : Value.okWide Try.prog W .any base 26 v)
    (h : DataW.Trod enc Try.prog W 0 (fun _ => true) true 26 v d p) : ∃ (n : Nat) (G : Nat → Gu), Rg W v n G ∧ n ≤ 9223372036854775807 := by
  obtain ⟨a0, len0, cap0, rfl⟩ := okWide_slice Try.underlying26 hv
  obtain ⟨fuel, hf0⟩ := h
  have hf : DataW.trod enc Try.prog W 0 (fun _ => true) true fuel 26 [.slice a0 len0 cap0] = some (d, p) := by simpa [Value.cells] using hf0
  rcases DataW.trod_slice Try.underlying26 hf with ⟨hcs0, _⟩ | ⟨a, len, cap, elems, rest, n, _, hcs0, _, _, hl, hm, hlen, hel, _, _⟩
  · simp at hcs0
    obtain ⟨rfl, rfl, rfl⟩ := hcs0
    exact ⟨0, fun _ => zg, Or.inl ⟨_, _, rfl, rfl⟩, by omega⟩
  simp at hcs0
  obtain ⟨rfl, rfl, rfl⟩ := hcs0
  unfold maxLen at hm
  by_cases h0 : len0 = 0
  · subst h0
    exact ⟨0, fun _ => zg, Or.inl ⟨_, _, rfl, rfl⟩, by omega⟩
  obtain ⟨G, h1, h2⟩ := rdv_of (W := W) (a := a) (len := len0) (cap := cap0) (m := 2) (by omega) (by omega) zg gcell (fun _ => True) (by
    intro i hi
    have h1 := hel i hi
    rw [cells94] at h1
    obtain ⟨y, hy⟩ : ∃ y, elems[i]? = some y := ⟨elems[i]'(by omega), List.getElem?_eq_getElem (by omega)⟩
    rw [hy, Option.bind_eq_some_iff] at h1
    obtain ⟨cs', hcs, hy'⟩ := h1
    obtain ⟨_, hcl, hce⟩ := World.cells?_some hcs
    match cs', hcl with
    | [c0, c1], _ =>
      obtain ⟨g, e0, e1⟩ := trod_gu hy'
      refine ⟨g, trivial, fun j hj => ?_⟩
      have e := hce j hj
      rw [e0, e1] at e
      match j, hj with
      | 0, _ => exact e
      | 1, _ => exact e)
  exact ⟨len0, G, h1, by omega⟩
theorem rg_shape {w : World} {v : Value} {n : Nat} {G : Nat → Gu} (h : Rg w v n G) : ∃ ao cap, v = .slice ao n cap := by
  rcases h with ⟨ao, cap, rfl, rfl⟩ | ⟨b, off, cap, rfl, _⟩
  · exact ⟨_, _, rfl⟩
  · exact ⟨_, _, rfl⟩
/-- A list of guards that owns its block g, from lo on, below hi. -/
structure OwG (lo hi : Nat) (w : World) (g n : Nat) (G : Nat → Gu) : Prop where
  lo : lo ≤ g
  hi : g < hi
  seg : SegV w g 77 n 2 (fun i j => gcell (G i) j)
theorem OwG.rd {lo hi : Nat} {w : World} {g n cap : Nat} {G : Nat → Gu} (h : OwG lo hi w g n G) : Rg w (.slice (some ⟨g, 0, none⟩) n cap) n G := h.seg.rd
theorem OwG.keep {lo hi : Nat} {w w' : World} {g n : Nat} {G : Nat → Gu} (h : OwG lo hi w g n G) (hk : Keep lo hi w w') : OwG lo hi w' g n G := ⟨h.lo, h.hi, h.seg.of_block (hk g h.lo h.hi)⟩
theorem toG_any {w : World} {ao : Option Addr} {n cap : Nat} {G : Nat → Gu} (h : Rg w (.slice ao n cap) n G) (hn : n ≤ 1000000000) :
    Calls Try.prog 15 #[.slice ao n cap] w fun e w' => e = .returned (.slice (some ⟨w.heap.size, 0, none⟩) n n) ∧ OwG w.heap.size w'.heap.size w' w.heap.size n G ∧ Below w.heap.size w w' :=
  (toGds_any h hn).mono fun e w' ⟨h1, h2, h3⟩ => ⟨h1, ⟨Nat.le_refl _, h2.lt, h2⟩, h3⟩
theorem szG_any (ao : Option Addr) (n cap : Nat) (left : Int) (w : World) (h0 : 0 ≤ left) (h1 : left ≤ 1048576) (hn : n ≤ 9223372036854775807) :
    Calls Try.prog 11 #[.slice ao n cap, .int .i64 left] w fun e w' => e = .returned (.int .i64 (szN left n)) ∧ Below w.heap.size w w' :=
  (szGd_any ao n cap left w h0 h1 hn).mono fun e w' ⟨h1, h2⟩ => ⟨h1, by rw [← h2]; exact Below.refl _ _⟩
theorem eqG_any {lo hi lo' hi' : Nat} {w : World} {g g' n cp cp' : Nat} {G : Nat → Gu} (h : OwG lo hi w g n G) (k : OwG lo' hi' w g' n G) (hn : n ≤ 1000000000000) :
    Calls Try.prog 20 #[.slice (some ⟨g, 0, none⟩) n cp, .slice (some ⟨g', 0, none⟩) n cp'] w fun e w' => e = .returned (.bool true) ∧ Below w.heap.size w w' := eqGds_same _ _ _ _ _ _ _ hn h.seg k.seg
theorem markG_any {lo hi : Nat} {w : World} {g n cap : Nat} {G : Nat → Gu} (k0 : Int) (h : OwG lo hi w g n G) (h0 : 0 ≤ k0) (h1 : k0 ≤ 100000000) (hn : n ≤ 1048576) :
    Calls Try.prog 23 #[.slice (some ⟨g, 0, none⟩) n cap, .int .i64 k0] w fun e w' => e = .returned (.int .i64 (mG k0 n)) ∧ OwG lo hi w' g n (fun i => mgd (mG k0 i)) ∧ Within lo hi w w' :=
  (markGd_some g n cap k0 _ w hn h0 h1 h.seg).mono fun e w' ⟨h1, h2, h3, _⟩ => ⟨h1, ⟨h.lo, h.hi, h2⟩, h3.mono h.lo h.hi⟩
end Go.Proofs.Ytinfbbbgfkaioaa
