/- A mesh opened, its matrix, light behind it, ReadMesh, UndoMesh of the program: Argrow, Om, Sr, Lb, Rd, Un drawn together. -/
import Derived.Test.YtboppklcmdfphaaArg
import Derived.Test.YtboppklcmdfphaaCl
import Derived.Test.YtboppklcmdfphaaSf
import Derived.Test.YtboppklcmdfphaaAux
import Derived.Test.YtboppklcmdfphaaFi
import Derived.Test.YtboppklcmdfphaaRw
import Derived.Test.YtboppklcmdfphaaPi
namespace Go.Proofs.Ytboppklcmdfphaa
open Go.ChangeShapes Go.WideShapes Go.ChangeAt Go.RowKit Go.Joins Go.Deep
set_option maxRecDepth 100000 in
theorem open_row {H : Type} {enc : TypeId × Value → H} {W : World} {base : Nat} {v : Value} {d : DataW H} {p : List MemPlace} (hv : Value.okWide Try.prog W .any base 32 v)
    (h : DataW.Trod enc Try.prog W 0 (fun _ => true) true 32 v d p) : ∃ (n : Nat) (f : Nat → Int), RdRow W v n f ∧ n ≤ 9223372036854775807 := by
  obtain ⟨a0, len, cap, rfl⟩ := okWide_slice Try.underlying32 hv
  obtain ⟨fuel, hf⟩ := h
  rcases open_ints Try.underlying32 Try.underlying2 cells2 hf with ⟨hcs0, _⟩ | ⟨a, len', cap', zs, hcs0, _, hl, hm, hz, _, hc, _⟩
  · simp [Value.cells] at hcs0
    obtain ⟨rfl, rfl, rfl⟩ := hcs0
    exact ⟨0, fun _ => 0, Or.inl ⟨_, _, rfl, rfl⟩, by omega⟩
  simp [Value.cells] at hcs0
  obtain ⟨rfl, rfl, rfl⟩ := hcs0
  rw [maxLen_eq] at hm
  simp only [if_true] at hz
  by_cases h0 : len = 0
  · subst h0
    exact ⟨0, fun _ => 0, Or.inl ⟨_, _, rfl, rfl⟩, by omega⟩
  obtain ⟨b, o, spot⟩ := a
  have hspot : spot = none := by simpa [Addr.add] using World.cell?_spot (hc 0 (by omega))
  subst hspot
  exact ⟨len, fun i => zs.getD i 0, Or.inr ⟨b, o, cap, rfl, fun i hi => by rw [← add_plain]; exact hc i (by omega)⟩, by omega⟩
end Go.Proofs.Ytboppklcmdfphaa
namespace Go.Proofs.Ytboppklcmdfphaa
open Go.ChangeShapes Go.WideShapes Go.ChangeAt Go.RowKit Go.Joins Go.Deep
set_option linter.unusedVariables false
theorem cells104 : Try.prog.cellsOf 104 = 6 := by kernel_rfl
theorem cells42 : Try.prog.cellsOf 42 = 1 := by kernel_rfl
theorem cells44 : Try.prog.cellsOf 44 = 3 := by kernel_rfl
theorem array3 {α : Type} {a : Array α} (h : a.size = 3) : ∃ x y z, a = #[x, y, z] := by
  obtain ⟨l⟩ := a
  match l, h with
  | [x, y, z], _ => exact ⟨x, y, z, rfl⟩
set_option maxRecDepth 100000 in
theorem trod_ce {H : Type} {enc : TypeId × Value → H} {W : World} {base : Nat} {spare : Nat → Bool} {held : Bool} {fuel : Nat} {c0 c1 c2 c3 c4 c5 : Value} {x : DataW H × List MemPlace}
    (h : DataW.trod enc Try.prog W base spare held fuel 104 [c0, c1, c2, c3, c4, c5] = some x) : ∃ g : Ce, c0 = ccell g 0 ∧ c1 = ccell g 1 ∧ c2 = ccell g 2 ∧ c3 = ccell g 3 ∧ c4 = ccell g 4 ∧ c5 = ccell g 5 := by
  obtain ⟨xs, m, _, _, _, hlen, hx⟩ := DataW.trod_struct Try.underlying104 h
  have hl : xs.length = 6 := hlen
  have g0 := hx 0 _ rfl
  have g1 := hx 1 _ rfl
  have g2 := hx 2 _ rfl
  have g3 := hx 3 _ rfl
  have g4 := hx 4 _ rfl
  have g5 := hx 5 _ rfl
  rw [List.getElem?_eq_getElem (by omega)] at g0 g1 g2 g3 g4 g5
  change DataW.trod enc Try.prog W base spare held m 2 (([c0, c1, c2, c3, c4, c5].drop 0).take (Try.prog.cellsOf 2)) = _ at g0
  change DataW.trod enc Try.prog W base spare held m 2 (([c0, c1, c2, c3, c4, c5].drop 1).take (Try.prog.cellsOf 2)) = _ at g1
  change DataW.trod enc Try.prog W base spare held m 2 (([c0, c1, c2, c3, c4, c5].drop 2).take (Try.prog.cellsOf 2)) = _ at g2
  change DataW.trod enc Try.prog W base spare held m 2 (([c0, c1, c2, c3, c4, c5].drop 3).take (Try.prog.cellsOf 2)) = _ at g3
  change DataW.trod enc Try.prog W base spare held m 2 (([c0, c1, c2, c3, c4, c5].drop 4).take (Try.prog.cellsOf 2)) = _ at g4
  change DataW.trod enc Try.prog W base spare held m 2 (([c0, c1, c2, c3, c4, c5].drop 5).take (Try.prog.cellsOf 2)) = _ at g5
  rw [cells2] at g0 g1 g2 g3 g4 g5
  obtain ⟨a0, e0, _, _⟩ := DataW.trod_int Try.underlying2 g0
  obtain ⟨a1, e1, _, _⟩ := DataW.trod_int Try.underlying2 g1
  obtain ⟨a2, e2, _, _⟩ := DataW.trod_int Try.underlying2 g2
  obtain ⟨a3, e3, _, _⟩ := DataW.trod_int Try.underlying2 g3
  obtain ⟨a4, e4, _, _⟩ := DataW.trod_int Try.underlying2 g4
  obtain ⟨a5, e5, _, _⟩ := DataW.trod_int Try.underlying2 g5
  simp at e0 e1 e2 e3 e4 e5
  exact ⟨⟨a0, a1, a2, a3, a4, a5⟩, e0, e1, e2, e3, e4, e5⟩
/-- A row of values out of what is known of each. -/
theorem rdv_of {W : World} {a : Addr} {len cap m : Nat} (h0 : 0 < len) (hm : 0 < m) {α : Type} (dflt : α) (f : α → Nat → Value) (Q : α → Prop) (each : ∀ i, i < len → ∃ g : α, Q g ∧ ∀ j, j < m → W.cell? ((a.add (i * m)).add j) = some (f g j)) :
    ∃ G : Nat → α, RdV W (.slice (some a) len cap) len m (fun i j => f (G i) j) ∧ ∀ i, i < len → Q (G i) := by
  obtain ⟨b, o, spot⟩ := a
  have hspot : spot = none := by
    obtain ⟨g, _, h1⟩ := each 0 h0
    simpa [Addr.add] using World.cell?_spot (h1 0 hm)
  subst hspot
  have each' : ∀ i, i < len → ∃ g : α, Q g ∧ ∀ j, j < m → W.cell? ⟨b, o + i * m + j, none⟩ = some (f g j) := fun i hi => by
    obtain ⟨g, h1, h2⟩ := each i hi
    refine ⟨g, h1, fun j hj => ?_⟩
    have := h2 j hj
    rw [add_plain, add_plain] at this
    exact this
  refine ⟨fun i => if hi : i < len then (each' i hi).choose else dflt, Or.inr ⟨b, o, cap, rfl, fun i hi j hj => ?_⟩, fun i hi => ?_⟩
  · have := (each' i hi).choose_spec.2 j hj
    simp only [hi, dif_pos]
    exact this
  · have := (each' i hi).choose_spec.1
    simp only [hi, dif_pos]
    exact this

set_option maxRecDepth 100000 in
theorem trod_ces {H : Type} {enc : TypeId × Value → H} {W : World} {base : Nat} {spare : Nat → Bool} {held : Bool} {fuel : Nat} {c : Value} {x : DataW H × List MemPlace}
    (hf : DataW.trod enc Try.prog W base spare held fuel 42 [c] = some x) : ∃ (n : Nat) (G : Nat → Ce), RdV W c n 6 (fun i j => ccell (G i) j) ∧ n ≤ 9223372036854775807 := by
  rcases DataW.trod_slice Try.underlying42 hf with ⟨hcs0, _⟩ | ⟨a, len, cap, elems, rest, n, _, hcs0, _, _, hl, hm, hlen, hel, _, _⟩
  · simp at hcs0
    subst hcs0
    exact ⟨0, fun _ => zc, Or.inl ⟨_, _, rfl, rfl⟩, by omega⟩
  simp at hcs0
  subst hcs0
  unfold maxLen at hm
  by_cases h0 : len = 0
  · subst h0
    exact ⟨0, fun _ => zc, Or.inl ⟨_, _, rfl, rfl⟩, by omega⟩
  obtain ⟨G, h1, h2⟩ := rdv_of (W := W) (a := a) (len := len) (cap := cap) (m := 6) (by omega) (by omega) zc ccell (fun _ => True) (by
    intro i hi
    have h1 := hel i hi
    rw [cells104] at h1
    obtain ⟨y, hy⟩ : ∃ y, elems[i]? = some y := ⟨elems[i]'(by omega), List.getElem?_eq_getElem (by omega)⟩
    rw [hy, Option.bind_eq_some_iff] at h1
    obtain ⟨cs', hcs, hy'⟩ := h1
    obtain ⟨_, hcl, hce⟩ := World.cells?_some hcs
    match cs', hcl with
    | [c0, c1, c2, c3, c4, c5], _ =>
      obtain ⟨g, e0, e1, e2, e3, e4, e5⟩ := trod_ce hy'
      refine ⟨g, trivial, fun j hj => ?_⟩
      have e := hce j hj
      rw [e0, e1, e2, e3, e4, e5] at e
      match j, hj with
      | 0, _ => exact e
      | 1, _ => exact e
      | 2, _ => exact e
      | 3, _ => exact e
      | 4, _ => exact e
      | 5, _ => exact e)
  exact ⟨len, G, h1, by omega⟩
set_option maxRecDepth 100000 in
theorem trod_row {H : Type} {enc : TypeId × Value → H} {W : World} {fuel : Nat} {c : Value} {x : DataW H × List MemPlace}
    (hf : DataW.trod enc Try.prog W 0 (fun _ => true) true fuel 32 [c] = some x) : ∃ (n : Nat) (f : Nat → Int), RdRow W c n f ∧ n ≤ 9223372036854775807 := by
  rcases open_ints Try.underlying32 Try.underlying2 cells2 hf with ⟨hcs0, _⟩ | ⟨a, len', cap', zs, hcs0, _, hl, hm, hz, _, hc, _⟩
  · simp at hcs0
    subst hcs0
    exact ⟨0, fun _ => 0, Or.inl ⟨_, _, rfl, rfl⟩, by omega⟩
  simp at hcs0
  subst hcs0
  rw [maxLen_eq] at hm
  simp only [if_true] at hz
  by_cases h0 : len' = 0
  · subst h0
    exact ⟨0, fun _ => 0, Or.inl ⟨_, _, rfl, rfl⟩, by omega⟩
  obtain ⟨b, o, spot⟩ := a
  have hspot : spot = none := by simpa [Addr.add] using World.cell?_spot (hc 0 (by omega))
  subst hspot
  exact ⟨len', fun i => zs.getD i 0, Or.inr ⟨b, o, cap', rfl, fun i hi => by rw [← add_plain]; exact hc i (by omega)⟩, by omega⟩
set_option maxRecDepth 100000 in
theorem open_mesh {H : Type} {enc : TypeId × Value → H} {W : World} {base : Nat} {v : Value} {d : DataW H} {p : List MemPlace} (hv : Value.okWide Try.prog W .any base 44 v)
    (h : DataW.Trod enc Try.prog W 0 (fun _ => true) true 44 v d p) : ∃ (sd : Int) (ao bo : Option Addr) (np cp nc cq : Nat) (ph : Nat → Int) (C : Nat → Ce), v = .agg #[.int .i64 sd, .slice ao np cp, .slice bo nc cq] ∧ RdRow W (.slice ao np cp) np ph ∧ RdV W (.slice bo nc cq) nc 6 (fun i j => ccell (C i) j) ∧ np ≤ 9223372036854775807 ∧ nc ≤ 9223372036854775807 := by
  obtain ⟨cs, rfl, hsz⟩ := okWide_struct Try.underlying44 hv
  obtain ⟨c0, c1, c2, rfl⟩ := array3 (hsz.trans cells44)
  obtain ⟨fuel, hf⟩ := h
  have hf' : DataW.trod enc Try.prog W 0 (fun _ => true) true fuel 44 [c0, c1, c2] = some (d, p) := by simpa [Value.cells] using hf
  obtain ⟨xs, m, _, _, _, hlen, hx⟩ := DataW.trod_struct Try.underlying44 hf'
  have hl : xs.length = 3 := hlen
  have g0 := hx 0 _ rfl
  have g1 := hx 1 _ rfl
  have g2 := hx 2 _ rfl
  rw [List.getElem?_eq_getElem (by omega)] at g0 g1 g2
  change DataW.trod enc Try.prog W 0 (fun _ => true) true m 2 (([c0, c1, c2].drop 0).take (Try.prog.cellsOf 2)) = _ at g0
  change DataW.trod enc Try.prog W 0 (fun _ => true) true m 32 (([c0, c1, c2].drop 1).take (Try.prog.cellsOf 32)) = _ at g1
  change DataW.trod enc Try.prog W 0 (fun _ => true) true m 42 (([c0, c1, c2].drop 2).take (Try.prog.cellsOf 42)) = _ at g2
  rw [cells2] at g0
  rw [cells38] at g1
  rw [cells42] at g2
  obtain ⟨a, e0, _, _⟩ := DataW.trod_int Try.underlying2 g0
  simp at e0
  obtain ⟨np, ph, h1, b1⟩ := trod_row (c := c1) g1
  obtain ⟨nc, C, h2, b2⟩ := trod_ces (c := c2) g2
  obtain ⟨ao, cp, rfl⟩ := h1.shape
  obtain ⟨bo, cq, rfl⟩ := h2.form
  exact ⟨a, ao, bo, np, cp, nc, cq, ph, C, by rw [e0], h1, h2, b1, b2⟩
end Go.Proofs.Ytboppklcmdfphaa
namespace Go.Proofs.Ytboppklcmdfphaa
open Go.RowKit
set_option linter.unusedVariables false
set_option linter.unusedSimpArgs false
/-- Rows of noughts that are built one behind another. -/
structure Rb (lo : Nat) (W : World) (i n : Nat) (v : Value) (bs : Nat → Nat) : Prop where
  own : W.ownsRow lo 32 1 v i ((List.range i).map fun r => .slice (some ⟨bs r, 0, none⟩) n n)
  rows : ∀ r, r < i → lo ≤ bs r ∧ Seg W (bs r) 2 0 n (fun _ => .int .i64 0)
  apart : ∀ r s, r < i → s < i → bs r = bs s → r = s
theorem Rb.step {lo : Nat} {W w1 : World} {i n : Nat} {v v1 : Value} {bs : Nat → Nat} (h : Rb lo W i n v bs) (hl : lo ≤ W.heap.size) {o : Obj} (ho : Seg (W.alloc o) W.heap.size 2 0 n (fun _ => .int .i64 0))
    (hown : w1.ownsRow lo 32 1 v1 (i + 1) (((List.range i).map fun r => .slice (some ⟨bs r, 0, none⟩) n n) ++ [.slice (some ⟨W.heap.size, 0, none⟩) n n]))
    (hgr : ((W.alloc o).alloc (.cells #[.slice (some ⟨W.heap.size, 0, none⟩) n n] 32)).grownBy w1 v.ownBlock) : Rb lo w1 (i + 1) n v1 (fun r => if r = i then W.heap.size else bs r) := by
  have hO : (W.alloc o).ownsRow lo 32 1 v i ((List.range i).map fun r => .slice (some ⟨bs r, 0, none⟩) n n) := owns_later h.own ((Below.refl _ _).alloc (Nat.le_refl _) _)
  have old : ∀ (b : Nat) (f : Nat → Value), Seg (W.alloc o) b 2 0 n f → Seg w1 b 2 0 n f := fun b f hf => (hf.alloc _).grown hgr (owns_ne hO hf (by decide))
  refine ⟨?_, fun r hr => ?_, fun r s hr hs e => ?_⟩
  · have e : (List.range (i + 1)).map (fun r => Value.slice (some ⟨if r = i then W.heap.size else bs r, 0, none⟩) n n) = ((List.range i).map fun r => Value.slice (some ⟨bs r, 0, none⟩) n n) ++ [Value.slice (some ⟨W.heap.size, 0, none⟩) n n] := by
      rw [List.range_succ, List.map_append]
      congr 1
      · exact List.map_congr_left fun r hr => by
          have := List.mem_range.1 hr
          rw [if_neg (by omega)]
      · simp
    rw [e]
    exact hown
  · by_cases e : r = i
    · subst e
      simp only [if_true]
      exact ⟨hl, old _ _ ho⟩
    · simp only [e, if_false]
      have := h.rows r (by omega)
      exact ⟨this.1, old _ _ (this.2.alloc _)⟩
  · by_cases e1 : r = i
    · by_cases e2 : s = i
      · omega
      · simp only [e1, e2, if_true, if_false] at e
        have := (h.rows s (by omega)).2.lt
        omega
    · by_cases e2 : s = i
      · simp only [e1, e2, if_true, if_false] at e
        have := (h.rows r (by omega)).2.lt
        omega
      · simp only [e1, e2, if_false] at e
        exact h.apart r s (by omega) (by omega) e
theorem Rb.mat {lo : Nat} {W : World} {n g cap : Nat} {bs : Nat → Nat} (h : Rb lo W n n (.slice (some ⟨g, 0, none⟩) n cap) bs) (hs : Seg W g 32 0 n (fun r => .slice (some ⟨bs r, 0, none⟩) n n)) (hg : lo ≤ g) :
    Mat lo W.heap.size W ⟨g, cap, bs, fun _ => 0, fun _ => n⟩ n (fun _ => n) (fun _ _ => 0) :=
  ⟨hs, fun r hr => (h.rows r hr).2, hg, hs.lt, fun r hr => (h.rows r hr).1, fun r hr => (h.rows r hr).2.lt, h.apart⟩
/-- One number 1, the others 0. -/
def unt (k i : Nat) : Int := if i = k then 1 else 0
/-- The matrix of a mesh. -/
def rdm (ph : Nat → Int) (C : Nat → Ce) (nc : Nat) : Rm.Mx := fun i k => Rm.fire ph C (unt k) nc i
set_option maxRecDepth 20000 in
set_option maxHeartbeats 3200000 in
theorem sRead_any {w : World} {ao bo : Option Addr} {np nc cp cq : Nat} {sd : Int} {ph : Nat → Int} {C : Nat → Ce} (h : Me w (.slice ao np cp) (.slice bo nc cq) np ph nc C) (hn0 : 0 < np) (hn : np ≤ 24) (hc : nc ≤ 600) (hsd : (np : Int) = sd) (hfit : Rm.fitsB (np : Int) C nc = true) :
    Calls Try.prog 76 #[.agg #[.int .i64 sd, .slice ao np cp, .slice bo nc cq]] w fun e w' => ∃ m : Lie, e = .returned (.slice (some ⟨m.b, 0, none⟩) np m.cap) ∧ Mat w.heap.size w'.heap.size w' m np (fun _ => np) (rdm ph C nc) ∧ Below w.heap.size w w' := by
  subst hsd
  obtain ⟨X, hX⟩ : ∃ X, X = (w.alloc (.cells #[.int .i64 ((np : Nat) : Int), .slice ao np cp, .slice bo nc cq] 49)) := ⟨_, rfl⟩
  have BX : Hid (Blk X w.heap.size #[.int .i64 ((np : Nat) : Int), .slice ao np cp, .slice bo nc cq] 49 ∧ Below w.heap.size w X) := by rw [hX]; exact ⟨Blk.new rfl, (Below.refl _ _).alloc (Nat.le_refl _) _⟩
  have hX0 : w.heap.size < X.heap.size := BX.out.1.lt
  have HM : ∀ W, Below X.heap.size X W → Hid (Me W (.slice ao np cp) (.slice bo nc cq) np ph nc C) := fun W hb => h.later (BX.out.2.trans (hb.mono (Nat.le_of_lt hX0)))
  clear h
  have hXs : Hid (X.heap.size = w.heap.size + 1) := by rw [hX]; show (w.alloc _).heap.size = _; simp
  have HF : Hid (Rm.fitsB (np : Int) C nc = true) := hfit
  clear hfit
  have hmk := run_make_row' (P := Try.prog) 32 2 (.int .i64 0) 8 Try.underlying32 info2 rfl .i64 .i64 np (by omega) (by omega)
  go_enter Try.func76, Try.ntmps76
  go_wp2_with fail
  rw [← hX]
  clear hX
  go_loopw [4, 3] (fun s v wr => ∃ (i : Nat) (bs : Nat → Nat), i ≤ np ∧ s = .int .i64 i ∧ Hid (Rb X.heap.size wr i np v bs ∧ Below X.heap.size X wr)) (fun s _ _ => np - (intOf s).toNat)
  case atStart => exact ⟨0, fun _ => 0, Nat.zero_le _, rfl, ⟨by rw [show w.heap.size + 1 = X.heap.size from hXs.out.symm]; exact owns_empty X 32, fun r hr => absurd hr (Nat.not_lt_zero _), fun r s hr => absurd hr (Nat.not_lt_zero _)⟩, (Below.refl _ _).alloc (Nat.le_refl _) _⟩
  case round =>
    obtain ⟨i, bs, hi, rfl, HB⟩ := hrel
    have hB := BX.out.1.old HB.out.2
    have x0 := hB.cell (j := 0) rfl
    have hlt := hB.lt
    clear hB
    have hz0 : X.heap.size ≤ wr.heap.size := HB.out.2.size
    by_cases hin : i < np
    · have hO : Hid ((wr.alloc (.cells (madeCells #[.int .i64 0] np) 2)).ownsRow X.heap.size 32 1 u3 i ((List.range i).map fun r => .slice (some ⟨bs r, 0, none⟩) np np)) := owns_later HB.out.1.own ((Below.refl _ _).alloc (Nat.le_refl _) _)
      go_wp2_with (first | (at_builtin; refine push_law rfl (.tmp 16) (.tmp 20) 22 rfl 32 (.slice none 0 0) 24 Try.underlying22 info38 rfl (by decide) (wr.alloc (.cells (madeCells #[.int .i64 0] np) 2)) _ rfl X.heap.size u3 i _ rfl hO.out 1 (by show Value.slice (some ⟨wr.heap.size + 1, 0, none⟩) 1 1 = _; simp) (by omega) (by simp; omega) ?_; intro v1 w1 hown1 hgrow1))
      have HN : Hid (Rb X.heap.size w1 (i + 1) np v1 (fun r => if r = i then wr.heap.size else bs r) ∧ Below X.heap.size X w1) :=
        ⟨HB.out.1.step hz0 (seg_made wr _ np 2) hown1 hgrow1, push_below hO.out hgrow1 (HB.out.2.alloc hz0 _) (by simp; omega)⟩
      clear hown1 hgrow1 hO HB x0
      go_wp2
      exact ⟨⟨i + 1, _, by omega, by simp, HN⟩, by simp [intOf]; omega⟩
    · obtain rfl : i = np := by omega
      obtain ⟨g, cap, hv, hgl, hseg⟩ := owned_seg HB.out.1.own hn0
      subst hv
      have HMt : Hid (Mat X.heap.size wr.heap.size wr ⟨g, cap, bs, fun _ => 0, fun _ => i⟩ i (fun _ => i) (fun _ _ => 0)) := HB.out.1.mat hseg hgl
      obtain ⟨m, hm⟩ : ∃ m : Lie, m = ⟨g, cap, bs, fun _ => 0, fun _ => i⟩ := ⟨_, rfl⟩
      have HMm : Hid (m.b = g ∧ m.cap = cap ∧ (∀ r, m.os r = 0)) := by rw [hm]; exact ⟨rfl, rfl, fun _ => rfl⟩
      rw [← hm] at HMt
      obtain ⟨Y, hY⟩ : ∃ Y, Y = wr := ⟨_, rfl⟩
      subst hY
      have H2 : Hid (Mat X.heap.size Y.heap.size Y m i (fun _ => i) (fun r c => if c < 0 then rdm ph C nc r c else 0) ∧ Below X.heap.size X Y) := ⟨HMt.out.congr (fun r c _ _ => by simp), HB.out.2⟩
      clear HB hseg hgl hm HMt
      go_wp2_with fail
      clear x0
      go_loopw [5] (fun s wr => ∃ k : Nat, k ≤ i ∧ s = .int .i64 k ∧ Hid (Mat X.heap.size Y.heap.size wr m i (fun _ => i) (fun r c => if c < k then rdm ph C nc r c else 0) ∧ Below X.heap.size X wr ∧ Y.heap.size ≤ wr.heap.size)) (fun s _ => i - (intOf s).toNat)
      case atStart => exact ⟨0, Nat.zero_le _, rfl, H2.out.1, H2.out.2, Nat.le_refl _⟩
      case round =>
        obtain ⟨k, hk, rfl, HS⟩ := hrel
        have hB := BX.out.1.old HS.out.2.1
        have x0 := hB.cell (j := 0) rfl
        have x1 := hB.cell (j := 1) rfl
        have x2 := hB.cell (j := 2) rfl
        have hlt := hB.lt
        clear hB
        by_cases hkn : k < i
        · obtain ⟨V, hV⟩ : ∃ V, V = wr.alloc (.cells ((madeCells #[.int .i64 0] i).setIfInBounds k (.int .i64 1)) 2) := ⟨_, rfl⟩
          have eV : V = (wr.alloc (.cells (madeCells #[.int .i64 0] i) 2)).setCell ⟨wr.heap.size, k, none⟩ (.int .i64 1) := by rw [hV]; symm; first | (go_simp; done) | simp [World.setCell, World.alloc]
          have sm := seg_made wr (.int .i64 0) i 2
          have m1 : (wr.alloc (.cells (madeCells #[.int .i64 0] i) 2)).cell? ⟨wr.heap.size, k, none⟩ = some (.int .i64 0) := by simpa using sm.cell hkn
          have m2 : (wr.alloc (.cells (madeCells #[.int .i64 0] i) 2)).frozen? ⟨wr.heap.size, k, none⟩ = false := sm.frozen k
          have BV : Hid (Seg V wr.heap.size 2 0 i (fun r => .int .i64 (unt k r)) ∧ Below wr.heap.size wr V) := by
            rw [eV]
            refine ⟨?_, ((Below.refl _ _).alloc (Nat.le_refl _) _).setCell (Nat.le_refl _) _⟩
            have := sm.set k hkn (.int .i64 1)
            rw [Nat.zero_add] at this
            refine this.congr fun r _ => ?_
            unfold unt
            by_cases e : r = k
            · simp [e]
            · simp [e]
          clear sm
          go_wp2_with fail
          rw [← hV]
          clear hV eV m1 m2 x0 x1 x2
          have zV : wr.heap.size + 1 ≤ V.heap.size := BV.out.1.lt
          have HV : Hid (Below X.heap.size X V) := HS.out.2.1.trans (BV.out.2.mono HS.out.2.1.size)
          refine (sFire_any (HM _ HV.out).out BV.out.1.rd hn0 hn hc HF.out).mono ?_
          rintro e w3 ⟨go, co, rfl, hgo, hgo2, hso, hb3⟩
          have H3 : Hid (Mat X.heap.size Y.heap.size w3 m i (fun _ => i) (fun r c => if c < k ∨ (c = k ∧ r < 0) then rdm ph C nc r c else 0) ∧ Below X.heap.size X w3 ∧ Y.heap.size ≤ w3.heap.size) := by
            have h1 := HS.out.2.2
            have h2 := hb3.size
            refine ⟨(HS.out.1.keep fun q _ h2 => (hb3.block q (by omega)).trans (BV.out.2.block q (by omega))).congr (fun r c _ _ => by simp), HV.out.trans (hb3.mono (by have := HS.out.2.1.size; omega)), by omega⟩
          have hYgo : Y.heap.size ≤ go := by have := HS.out.2.2; omega
          have HO : Hid (Seg w3 go 2 0 i (fun r => .int .i64 (Rm.fire ph C (unt k) nc r))) := hso
          clear HS BV HV hso hb3 hgo zV
          obtain ⟨Z, hZ⟩ : ∃ Z, Z = w3 := ⟨_, rfl⟩
          subst hZ
          go_wp2_with fail
          go_loopw [8] (fun s wr => ∃ j : Nat, j ≤ i ∧ s = .int .i64 j ∧ Hid (Mat X.heap.size Y.heap.size wr m i (fun _ => i) (fun r c => if c < k ∨ (c = k ∧ r < j) then rdm ph C nc r c else 0) ∧ Below X.heap.size X wr ∧ Y.heap.size ≤ wr.heap.size ∧ Seg wr go 2 0 i (fun r => .int .i64 (Rm.fire ph C (unt k) nc r)))) (fun s _ => i - (intOf s).toNat)
          case atStart => exact ⟨0, Nat.zero_le _, rfl, H3.out.1, H3.out.2.1, H3.out.2.2, HO.out⟩
          case round =>
            obtain ⟨j, hj, rfl, HS⟩ := hrel
            have hB := BX.out.1.old HS.out.2.1
            have x0 := hB.cell (j := 0) rfl
            have hlt := hB.lt
            clear hB
            by_cases hjn : j < i
            · have g1 : wr.cell? ⟨g, j, none⟩ = some (.slice (some ⟨m.bs j, 0, none⟩) i (m.cs j)) := by have := HS.out.1.cellRow hjn; rw [HMm.out.1, HMm.out.2.2] at this; exact this
              have g2 : wr.cell? ⟨go, j, none⟩ = some (.int .i64 (Rm.fire ph C (unt k) nc j)) := by simpa using HS.out.2.2.2.cell hjn
              have g3 : ∃ o : Int, wr.cell? ⟨m.bs j, k, none⟩ = some (.int .i64 o) := by have := HS.out.1.cellAt hjn hkn; rw [HMm.out.2.2, Nat.zero_add] at this; exact ⟨_, this⟩
              obtain ⟨ov, g3⟩ := g3
              have g4 : wr.frozen? ⟨m.bs j, k, none⟩ = false := (HS.out.1.row j hjn).frozen _
              have hmg := HS.out.1.rhi j hjn
              have HN : ∀ W, (∀ q : Nat, W.heap[q]? = wr.heap[q]?) → W.heap.size = wr.heap.size → Below wr.heap.size wr W → Hid (Mat X.heap.size Y.heap.size (W.setCell ⟨m.bs j, k, none⟩ (.int .i64 (Rm.fire ph C (unt k) nc j))) m i (fun _ => i) (fun r c => if c < k ∨ (c = k ∧ r < j + 1) then rdm ph C nc r c else 0) ∧ Below X.heap.size X (W.setCell ⟨m.bs j, k, none⟩ (.int .i64 (Rm.fire ph C (unt k) nc j))) ∧ Y.heap.size ≤ (W.setCell ⟨m.bs j, k, none⟩ (.int .i64 (Rm.fire ph C (unt k) nc j))).heap.size ∧ Seg (W.setCell ⟨m.bs j, k, none⟩ (.int .i64 (Rm.fire ph C (unt k) nc j))) go 2 0 i (fun r => .int .i64 (Rm.fire ph C (unt k) nc r))) := fun W hW hWs hWb => by
                have h0 := (HS.out.1.keep (w' := W) fun q _ _ => hW q).set hjn hkn (Rm.fire ph C (unt k) nc j)
                rw [HMm.out.2.2, Nat.zero_add] at h0
                refine ⟨h0.congr fun r c _ _ => ?_, (HS.out.2.1.trans (hWb.mono HS.out.2.1.size)).setCell (p := ⟨m.bs j, k, none⟩) (HS.out.1.rlo j hjn) _, by rw [World.size_setCell, hWs]; exact HS.out.2.2.1, (HS.out.2.2.2.of_block (hW go)).setOther (by show go ≠ m.bs j; omega) _⟩
                by_cases e : r = j ∧ c = k
                · obtain ⟨rfl, rfl⟩ := e
                  rw [if_pos ⟨rfl, rfl⟩, if_pos (by omega)]
                  rfl
                · rw [if_neg e]
                  by_cases e2 : c < k ∨ (c = k ∧ r < j)
                  · rw [if_pos e2, if_pos (by omega)]
                  · rw [if_neg e2, if_neg (by omega)]
              clear HS
              go_wp2_with fail
              go_region
              go_wp2
              exact ⟨⟨j + 1, by omega, by simp, HN wr.drew (fun _ => rfl) rfl (Below.refl _ _).drew⟩, by simp [intOf]; omega⟩
            · obtain rfl : j = i := by omega
              have HN : Hid (Mat X.heap.size Y.heap.size wr m j (fun _ => j) (fun r c => if c < k + 1 then rdm ph C nc r c else 0) ∧ Below X.heap.size X wr ∧ Y.heap.size ≤ wr.heap.size) := ⟨HS.out.1.congr (fun r c hr _ => by
                by_cases e2 : c < k ∨ (c = k ∧ r < j)
                · rw [if_pos e2, if_pos (by omega)]
                · rw [if_neg e2, if_neg (by omega)]), HS.out.2.1, HS.out.2.2.1⟩
              clear HS H3 HO
              go_wp2
              exact ⟨⟨k + 1, by omega, by simp, HN⟩, by simp [intOf]; omega⟩
        · obtain rfl : k = i := by omega
          clear HM H2
          go_wp2
          go_ret
          refine ⟨m, by rw [HMm.out.1, HMm.out.2.1]; rfl, ((HS.out.1.congr (fun r c _ hc => by simp [hc])).wide (by omega) HS.out.2.2), BX.out.2.trans (HS.out.2.1.mono (Nat.le_of_lt hX0))⟩
end Go.Proofs.Ytboppklcmdfphaa
namespace Go.Proofs.Ytboppklcmdfphaa
open Go.RowKit
set_option linter.unusedVariables false
set_option linter.unusedSimpArgs false
set_option maxRecDepth 20000 in
set_option maxHeartbeats 3200000 in
theorem lights_any {w : World} {ao bo : Option Addr} {np nc cp cq : Nat} {sd : Int} {ph : Nat → Int} {C : Nat → Ce} (h : Me w (.slice ao np cp) (.slice bo nc cq) np ph nc C) {v : Value} {wd : Nat} {A : Rm.Mx} (hA : RdMat w v np (fun _ => wd) A) (hn0 : 0 < np) (hn : np ≤ 1000) (hw0 : 0 < wd) (hw : wd ≤ 1000) (hc : nc ≤ 600) (hfit : Rm.fitsB (np : Int) C nc = true) :
    Calls Try.prog 73 #[.agg #[.int .i64 sd, .slice ao np cp, .slice bo nc cq], v] w fun e w' => ∃ m : Lie, e = .returned (.slice (some ⟨m.b, 0, none⟩) np m.cap) ∧ Mat w.heap.size w'.heap.size w' m np (fun _ => wd) (fun i t => Rm.fire ph C (fun r => A r t) nc i) ∧ Below w.heap.size w w' := by
  obtain ⟨vb, vo, vc, vs, rfl, hvs⟩ : ∃ (b off cap : Nat) (vs : Nat → Value), v = .slice (some ⟨b, off, none⟩) np cap ∧ ∀ i, i < np → w.cell? ⟨b, off + i, none⟩ = some (vs i) ∧ RdRow w (vs i) wd (A i) := by
    rcases hA with ⟨_, _, _, e⟩ | hA
    · omega
    · exact hA
  obtain ⟨X, hX⟩ : ∃ X, X = (w.alloc (.cells #[.int .i64 sd, .slice ao np cp, .slice bo nc cq] 49)) := ⟨_, rfl⟩
  have BX : Hid (Blk X w.heap.size #[.int .i64 sd, .slice ao np cp, .slice bo nc cq] 49 ∧ Below w.heap.size w X) := by rw [hX]; exact ⟨Blk.new rfl, (Below.refl _ _).alloc (Nat.le_refl _) _⟩
  have hX0 : w.heap.size < X.heap.size := BX.out.1.lt
  have HM : ∀ W, Below X.heap.size X W → Hid (Me W (.slice ao np cp) (.slice bo nc cq) np ph nc C) := fun W hb => h.later (BX.out.2.trans (hb.mono (Nat.le_of_lt hX0)))
  clear h
  have HV : Hid (∀ i, i < np → X.cell? ⟨vb, vo + i, none⟩ = some (vs i) ∧ RdRow X (vs i) wd (A i)) := fun i hi => ⟨(BX.out.2.cell (World.block_lt_of_cell? _ _ (hvs i hi).1)).trans (hvs i hi).1, (hvs i hi).2.later BX.out.2⟩
  clear hvs
  have HF : Hid (Rm.fitsB (np : Int) C nc = true) := hfit
  clear hfit
  go_enter Try.func73, Try.ntmps73
  go_wp2_with fail
  rw [← hX]
  clear hX
  refine (guides_any vb vo np vc vs (fun _ => wd) A X (by omega) (fun _ _ => ⟨hw0, by omega⟩) HV.out).mono ?_
  rintro e w1 ⟨rfl, hg, hb1⟩
  obtain ⟨m, hm⟩ : ∃ m : Lie, m = newLie X.heap.size np (fun _ => wd) := ⟨_, rfl⟩
  rw [← hm] at hg
  have EM : Hid ((newLie X.heap.size np (fun _ => wd)).val np = .slice (some ⟨m.b, 0, none⟩) np m.cap) := by rw [hm]; rfl
  rw [EM.out]
  clear hm EM HV
  have H1 : Hid (Gm X.heap.size w1.heap.size w1 m np (fun _ => wd) (fun i j => Rm.md (A i j)) ∧ Below X.heap.size X w1) := ⟨hg, hb1⟩
  have hB := BX.out.1.old hb1
  have x1 := hB.cell (j := 1) rfl
  have zX := hb1.size
  clear hB hg hb1
  go_wp2_with fail
  refine (residues_any (HM _ H1.out.2).out.p hn0 (by omega)).mono ?_
  rintro e w2 ⟨rfl, hs, hb2, hz2⟩
  have z2 : w1.heap.size + 1 ≤ w2.heap.size := by omega
  have H2 : Hid (Gm X.heap.size w1.heap.size w2 m np (fun _ => wd) (fun i j => Rm.md (A i j)) ∧ Below X.heap.size X w2 ∧ Seg w2 w1.heap.size 92 0 np (fun i => .int .i64 (Rm.md (ph i)))) :=
    ⟨H1.out.1.keep (fun k _ h2 => hb2.block k h2), H1.out.2.trans (hb2.mono zX), hs⟩
  clear x1 H1 hs hb2 hz2
  go_wp2_with fail
  go_loopw [18] (fun s wr => ∃ i : Nat, i ≤ np ∧ s = .int .i64 i ∧ Hid (Gm X.heap.size w1.heap.size wr m np (fun _ => wd) (fun r t => if r < i then Rm.mulM (A r t) (ph r) else Rm.md (A r t)) ∧ Below X.heap.size X wr ∧ Seg wr w1.heap.size 92 0 np (fun i => .int .i64 (Rm.md (ph i))) ∧ w1.heap.size + 1 ≤ wr.heap.size)) (fun s _ => np - (intOf s).toNat)
  case atStart => exact ⟨0, Nat.zero_le _, rfl, H2.out.1.congr (fun r t _ _ => by simp), H2.out.2.1, H2.out.2.2, z2⟩
  case round =>
    obtain ⟨i, hi, rfl, HS⟩ := hrel
    by_cases hin : i < np
    · have g1 : wr.cell? ⟨w1.heap.size, i, none⟩ = some (.int .i64 (Rm.md (ph i))) := by simpa using HS.out.2.2.1.cell hin
      go_wp2_with fail
      refine (multiply_any HS.out.1 i _ hin (by omega) (by omega)).mono ?_
      rintro e w3 ⟨rfl, hg, hw3, hz3⟩
      have HN : Hid (Gm X.heap.size w1.heap.size w3 m np (fun _ => wd) (fun r t => if r < i + 1 then Rm.mulM (A r t) (ph r) else Rm.md (A r t)) ∧ Below X.heap.size X w3 ∧ Seg w3 w1.heap.size 92 0 np (fun i => .int .i64 (Rm.md (ph i))) ∧ w1.heap.size + 1 ≤ w3.heap.size) := by
        refine ⟨hg.congr fun r t _ _ => ?_, HS.out.2.1.trans hw3.below, HS.out.2.2.1.of_block (hw3.above _ (Nat.le_refl _) (by have := HS.out.2.2.2; omega)), by have := HS.out.2.2.2; omega⟩
        by_cases e : r = i
        · subst e; simp [Rm.mulM_mdl, Rm.mulM_mdr]
        · by_cases e2 : r < i
          · simp [e, e2, Nat.lt_succ_of_lt e2]
          · have e3 : ¬ r < i + 1 := by omega
            simp [e, e2, e3]
      clear hg hw3 hz3 HS g1
      go_wp2
      exact ⟨⟨i + 1, by omega, by simp, HN⟩, by simp [intOf]; omega⟩
    · obtain rfl : i = np := by omega
      obtain ⟨Y, hY⟩ : ∃ Y, Y = wr := ⟨_, rfl⟩
      subst hY
      have H3 : Hid (Gm X.heap.size w1.heap.size Y m i (fun _ => wd) (fun r t => Rm.fire ph C (fun r => A r t) 0 r) ∧ Below X.heap.size X Y ∧ w1.heap.size + 1 ≤ Y.heap.size) := ⟨HS.out.1.congr (fun r t hr _ => by simp [hr, Rm.fire]), HS.out.2.1, HS.out.2.2.2⟩
      have hB := BX.out.1.old HS.out.2.1
      have x2 := hB.cell (j := 2) rfl
      clear hB HS
      go_wp2_with fail
      clear x2
      go_loopw [32] (fun s wr => ∃ k : Nat, k ≤ nc ∧ s = .int .i64 k ∧ Hid (Gm X.heap.size w1.heap.size wr m i (fun _ => wd) (fun r t => Rm.fire ph C (fun r => A r t) k r) ∧ Below X.heap.size X wr ∧ w1.heap.size + 1 ≤ wr.heap.size)) (fun s _ => nc - (intOf s).toNat)
      case atStart => exact ⟨0, Nat.zero_le _, rfl, H3.out⟩
      case round =>
        obtain ⟨k, hk, rfl, HS⟩ := hrel
        by_cases hkn : k < nc
        · obtain ⟨b, rfl, hcc⟩ := (HM _ HS.out.2.1).out.c.at hkn
          have hB := BX.out.1.old HS.out.2.1
          have x2 := hB.cell (j := 2) rfl
          have g0 : wr.cell? ⟨b, k * 6, none⟩ = some (.int .i64 (C k).i) := hcc 0 (by omega)
          have g1 : wr.cell? ⟨b, k * 6 + 1, none⟩ = some (.int .i64 (C k).j) := hcc 1 (by omega)
          have g2 : wr.cell? ⟨b, k * 6 + 2, none⟩ = some (.int .i64 (C k).a) := hcc 2 (by omega)
          have g3 : wr.cell? ⟨b, k * 6 + 3, none⟩ = some (.int .i64 (C k).b) := hcc 3 (by omega)
          have g4 : wr.cell? ⟨b, k * 6 + 4, none⟩ = some (.int .i64 (C k).c) := hcc 4 (by omega)
          have g5 : wr.cell? ⟨b, k * 6 + 5, none⟩ = some (.int .i64 (C k).d) := hcc 5 (by omega)
          have hft := Rm.fit_told (Rm.fits_all HF.out k hkn)
          clear hB hcc
          obtain ⟨g, hg⟩ : ∃ g, g = C k := ⟨_, rfl⟩
          have HG : Hid (g = C k) := hg
          rw [← hg] at g0 g1 g2 g3 g4 g5 hft
          clear hg
          go_wp2_with fail
          refine (coupler_any g _).mono ?_
          rintro e w3 ⟨rfl, hb3⟩
          have H4 : Hid (Gm X.heap.size w1.heap.size w3 m i (fun _ => wd) (fun r t => Rm.fire ph C (fun r => A r t) k r) ∧ Below X.heap.size X w3 ∧ w1.heap.size + 1 ≤ w3.heap.size) :=
            ⟨HS.out.1.keep (fun q _ h2 => hb3.block q (by have := HS.out.2.2; omega)), HS.out.2.1.trans (hb3.mono HS.out.2.1.size), by have := HS.out.2.2; have := hb3.size; omega⟩
          obtain ⟨I, hI⟩ : ∃ I : Nat, (I : Int) = g.i := ⟨g.i.toNat, by omega⟩
          obtain ⟨J, hJ⟩ : ∃ J : Nat, (J : Int) = g.j := ⟨g.j.toNat, by omega⟩
          have HIJ : Hid ((I : Int) = g.i ∧ (J : Int) = g.j) := ⟨hI, hJ⟩
          have hIn : I < i := by omega
          have hJn : J < i := by omega
          have hIJ : I ≠ J := by omega
          rw [← hI, ← hJ]
          clear HS hb3 g0 g1 g2 g3 g4 g5 x2 hft hI hJ
          go_wp2_with fail
          refine (couple_any H4.out.1 I J _ _ _ _ hIn hJn hIJ (by omega) (by omega) (by have := H4.out.2.2; omega) (by have := H4.out.2.2; omega)).mono ?_
          rintro e w4 ⟨rfl, hg4, hw4⟩
          have HN : Hid (Gm X.heap.size w1.heap.size w4 m i (fun _ => wd) (fun r t => Rm.fire ph C (fun r => A r t) (k + 1) r) ∧ Below X.heap.size X w4 ∧ w1.heap.size + 1 ≤ w4.heap.size) := by
            refine ⟨hg4.congr fun r t hr ht => ?_, H4.out.2.1.trans hw4.below, by have := H4.out.2.2; have := hw4.below.size; omega⟩
            rw [cpl_fire HIJ.out.1 HIJ.out.2 ht, HG.out]
            rfl
          clear H4 hg4 hw4
          go_wp2
          exact ⟨⟨k + 1, by omega, by simp, HN⟩, by simp [intOf]; omega⟩
        · obtain rfl : k = nc := by omega
          clear H3 H2
          obtain ⟨Z, hZ⟩ : ∃ Z, Z = wr := ⟨_, rfl⟩
          subst hZ
          have hmk := run_make_row' (P := Try.prog) 22 32 (.slice none 0 0) 24 Try.underlying22 info38 rfl .i64 .i64 i (by omega) (by omega)
          have zZ : w1.heap.size + 1 ≤ Z.heap.size := HS.out.2.2
          have HZ : ∀ W, Below Z.heap.size Z W → Hid (Gm X.heap.size w1.heap.size W m i (fun _ => wd) (fun r t => Rm.fire ph C (fun r => A r t) k r) ∧ Below X.heap.size X W) := fun W hb => ⟨HS.out.1.keep (fun q _ h2 => hb.block q (by omega)), HS.out.2.1.trans (hb.mono HS.out.2.1.size)⟩
          clear HS
          go_wp2_with fail
          clear hmk
          go_loopw [49] (fun s wr => ∃ j : Nat, j ≤ i ∧ s = .int .i64 j ∧ Hid (Laying Z.heap.size wr i j (fun _ => wd) (fun r t => Rm.fire ph C (fun r => A r t) k r) ∧ Below Z.heap.size Z wr)) (fun s _ => i - (intOf s).toNat)
          case atStart => exact ⟨0, Nat.zero_le _, rfl, laying_start Z i _ _, (Below.refl _ _).alloc (Nat.le_refl _) _⟩
          case round =>
            obtain ⟨j, hj, rfl, HS⟩ := hrel
            by_cases hjn : j < i
            · have g1 : wr.cell? ⟨m.b, j, none⟩ = some (.slice (some ⟨m.bs j, m.os j, none⟩) wd (m.cs j)) := (HZ _ HS.out.2).out.1.cellRow hjn
              have HR : Hid (RdRow wr (.slice (some ⟨m.bs j, m.os j, none⟩) wd (m.cs j)) wd (fun t => Rm.fire ph C (fun r => A r t) k j)) := ((HZ _ HS.out.2).out.1.row j hjn).rd
              go_wp2_with fail
              refine (tell_any HR.out hw0 (by omega)).mono ?_
              rintro e w5 ⟨rfl, hr, hb5, hz5⟩
              have hT := HS.out.1.top
              have hz0 := HS.out.1.size
              have hT1 : Seg w5 Z.heap.size 32 0 i (fun q => if q < j then (newLie Z.heap.size i (fun _ => wd)).row (fun _ => wd) q else .slice none 0 0) := hT.of_block (hb5.block _ (by omega))
              have g2 : w5.cell? ⟨Z.heap.size, j, none⟩ = some (.slice none 0 0) := by simpa using hT1.cell hjn
              have g3 : w5.frozen? ⟨Z.heap.size, j, none⟩ = false := hT1.frozen j
              have HN : Hid (Laying Z.heap.size (w5.setCell ⟨Z.heap.size, j, none⟩ (.slice (some ⟨Z.heap.size + 1 + j, 0, none⟩) wd wd)) i (j + 1) (fun _ => wd) (fun r t => Rm.fire ph C (fun r => A r t) k r) ∧ Below Z.heap.size Z (w5.setCell ⟨Z.heap.size, j, none⟩ (.slice (some ⟨Z.heap.size + 1 + j, 0, none⟩) wd wd))) :=
                ⟨HS.out.1.step hjn hb5 hz5 hr, (HS.out.2.trans (hb5.mono (by omega))).setCell (Nat.le_refl _) _⟩
              rw [hz0]
              clear hT hT1 hr hb5 hz5 hz0 HS HR g1
              go_wp2
              exact ⟨⟨j + 1, by omega, by simp, HN⟩, by simp [intOf]; omega⟩
            · obtain rfl : j = i := by omega
              have HL : Hid (Mat Z.heap.size wr.heap.size wr (newLie Z.heap.size j (fun _ => wd)) j (fun _ => wd) (fun r t => Rm.fire ph C (fun r => A r t) k r) ∧ Below X.heap.size X wr) := ⟨HS.out.1.mat, (HZ _ HS.out.2).out.2⟩
              clear HS HZ
              go_wp2
              go_ret
              refine ⟨newLie Z.heap.size j (fun _ => wd), rfl, HL.out.1.wide (by omega) (Nat.le_refl _), BX.out.2.trans (HL.out.2.mono (by omega))⟩
end Go.Proofs.Ytboppklcmdfphaa
namespace Go.Proofs.Ytboppklcmdfphaa
open Go.RowKit
set_option linter.unusedVariables false
set_option linter.unusedSimpArgs false
/-- A matrix beside two stores into another block. -/
theorem mat_two {lo hi : Nat} {W : World} {m : Lie} {n : Nat} {L : Nat → Nat} {F : Rm.Mx} (h : Mat lo hi W m n L F) {r : Nat} (hr : r < lo) (x y : Value) : Mat lo hi ((W.setCell ⟨r, 0, none⟩ x).setCell ⟨r, 1, none⟩ y) m n L F :=
  h.keep fun k h1 _ => by rw [Below.heap_setCell _ _ _ _ (by show k ≠ r; omega), Below.heap_setCell _ _ _ _ (by show k ≠ r; omega)]
set_option maxRecDepth 20000 in
set_option maxHeartbeats 1600000 in
theorem sRM_any {w : World} {ao bo : Option Addr} {np nc cp cq : Nat} {sd : Int} {ph : Nat → Int} {C : Nat → Ce} (h : Me w (.slice ao np cp) (.slice bo nc cq) np ph nc C) (hp : np ≤ 1048576) (hn : nc ≤ 1048576) {c : Int} (hc : c = Rm.mfault sd np ph nc C) :
    Calls Try.prog 41 #[.agg #[.int .i64 sd, .slice ao np cp, .slice bo nc cq]] w fun e w' => ∃ v, e = .returned (.agg #[.int .i64 c, v]) ∧ OwnR w.heap.size w'.heap.size w' c v np (rdm ph C nc) ∧ Below w.heap.size w w' := by
  obtain ⟨X, hX⟩ : ∃ X, X = (w.alloc (.cells #[.int .i64 sd, .slice ao np cp, .slice bo nc cq] 49)).alloc (.cells #[.int .i64 0, .slice none 0 0] 25) := ⟨_, rfl⟩
  have BX : Hid (Blk X w.heap.size #[.int .i64 sd, .slice ao np cp, .slice bo nc cq] 49 ∧ Below w.heap.size w X ∧ Blk X (w.heap.size + 1) #[.int .i64 0, .slice none 0 0] 25 ∧ X.heap.size = w.heap.size + 1 + 1) := by rw [hX]; exact ⟨(Blk.new rfl).alloc _, ((Below.refl _ _).alloc (Nat.le_refl _) _).alloc (by simp) _, Blk.new (by simp), by simp⟩
  have hX0 : w.heap.size < X.heap.size := BX.out.1.lt
  have HM : ∀ W, Below X.heap.size X W → Hid (Me W (.slice ao np cp) (.slice bo nc cq) np ph nc C) := fun W hb => h.later (BX.out.2.1.trans (hb.mono (Nat.le_of_lt hX0)))
  clear h
  have x0 := BX.out.1.cell (j := 0) rfl
  have x1 := BX.out.1.cell (j := 1) rfl
  have x2 := BX.out.1.cell (j := 2) rfl
  have HCC : Hid (c = Rm.mfault sd np ph nc C) := hc
  clear hc
  go_enter Try.func41, Try.ntmps41
  go_wp2_with fail
  rw [← hX]
  clear hX
  refine (sMf_any (HM _ (Below.refl _ _)).out hp hn).mono ?_
  rintro e w1 ⟨rfl, hb1⟩
  rw [← HCC.out]
  clear x0 x1 x2
  by_cases h0 : c = 0
  · have HC0 : Hid (c = 0) := h0
    have hok := Rm.mfault_ok (HCC.out.symm.trans h0)
    have hp24 : np ≤ 24 := by omega
    have hp0 : 0 < np := by omega
    have hc600 : nc ≤ 600 := by omega
    have HFT : Hid ((np : Int) = sd ∧ Rm.fitsB (np : Int) C nc = true) := ⟨hok.2.2.2.1, by rw [hok.2.2.2.1]; exact hok.2.2.2.2⟩
    clear hok
    rw [HC0.out]
    clear h0
    have hB := BX.out.1.old hb1
    have y0 := hB.cell (j := 0) rfl
    have y1 := hB.cell (j := 1) rfl
    have y2 := hB.cell (j := 2) rfl
    have hl := hB.lt
    clear hB
    have HB1 : Hid (Below X.heap.size X w1) := hb1
    clear hb1
    go_wp2_with fail
    refine (sRead_any (HM _ HB1.out).out hp0 hp24 hc600 HFT.out.1 HFT.out.2).mono ?_
    rintro e w2 ⟨m, rfl, hm, hb2⟩
    clear y0 y1 y2 hl
    have HB2 : Hid (Below X.heap.size X w2) := HB1.out.trans (hb2.mono HB1.out.size)
    have zP : X.heap.size ≤ w1.heap.size := HB1.out.size
    have HMM : Hid (Mat w1.heap.size w2.heap.size w2 m np (fun _ => np) (rdm ph C nc)) := hm
    clear hm hb2 HM
    have hB := BX.out.1.old HB2.out
    have y0 := hB.cell (j := 0) rfl
    have y1 := hB.cell (j := 1) rfl
    have y2 := hB.cell (j := 2) rfl
    have hl := hB.lt
    clear hB
    have hR := BX.out.2.2.1.old HB2.out
    have HR : Hid (Blk w2 (w.heap.size + 1) #[.int .i64 0, .slice none 0 0] 25) := hR
    have r0 := hR.cell (j := 0) rfl
    have r1 := hR.cell (j := 1) rfl
    have rf := hR.frozen
    have rl := hR.lt
    clear hR
    go_wp2
    refine bodyPost_ret (res_of (cs := #[.int .i64 0, .slice (some ⟨m.b, 0, none⟩) np m.cap]) Try.results41 rfl ((HR.out.set 0 _ rfl).set 1 _ rfl) Try.underlying25 (by kernel_rfl)) rfl ⟨_, by rw [HC0.out], ?_, ?_⟩
    · have hx := BX.out.2.2.2
      exact Or.inr ⟨HC0.out, m, rfl, (mat_two HMM.out (by omega) _ _).wide (by omega) (by simp)⟩
    · exact ((BX.out.2.1.trans (HB2.out.mono (Nat.le_of_lt hX0))).setCell (by simp) _).setCell (by simp) _
  · have h1 : (c != 0) = true := by rw [bne_iff_ne]; exact h0
    have HC0 : Hid (c ≠ 0) := h0
    clear h0
    have hB := BX.out.1.old hb1
    have y0 := hB.cell (j := 0) rfl
    have y1 := hB.cell (j := 1) rfl
    have y2 := hB.cell (j := 2) rfl
    have hl := hB.lt
    clear hB
    have hR := BX.out.2.2.1.old hb1
    have HR : Hid (Blk w1 (w.heap.size + 1) #[.int .i64 0, .slice none 0 0] 25) := hR
    have r0 := hR.cell (j := 0) rfl
    have r1 := hR.cell (j := 1) rfl
    have rf := hR.frozen
    have rl := hR.lt
    clear hR
    have HBW : Hid (Below w.heap.size w w1) := BX.out.2.1.trans (hb1.mono (Nat.le_of_lt hX0))
    clear hb1 HM
    go_wp2
    refine bodyPost_ret (res_of (cs := #[.int .i64 c, .slice none 0 0]) Try.results41 rfl ((HR.out.set 0 _ rfl).set 1 _ rfl) Try.underlying25 (by kernel_rfl)) rfl ⟨_, rfl, Or.inl ⟨HC0.out, rfl⟩, ?_⟩
    exact (HBW.out.setCell (by simp) _).setCell (by simp) _
set_option maxRecDepth 20000 in
set_option maxHeartbeats 1600000 in
theorem iRM_any {w : World} {ao bo : Option Addr} {np nc cp cq : Nat} {sd : Int} {ph : Nat → Int} {C : Nat → Ce} (h : Me w (.slice ao np cp) (.slice bo nc cq) np ph nc C) (hp : np ≤ 1048576) (hn : nc ≤ 1048576) {c : Int} (hc : c = Rm.mfault sd np ph nc C) :
    Calls Try.prog 42 #[.agg #[.int .i64 sd, .slice ao np cp, .slice bo nc cq]] w fun e w' => ∃ v, e = .returned (.agg #[.int .i64 c, v]) ∧ OwnR w.heap.size w'.heap.size w' c v np (rdm ph C nc) ∧ Below w.heap.size w w' := by
  obtain ⟨X, hX⟩ : ∃ X, X = (w.alloc (.cells #[.int .i64 sd, .slice ao np cp, .slice bo nc cq] 49)).alloc (.cells #[.int .i64 0, .slice none 0 0] 25) := ⟨_, rfl⟩
  have BX : Hid (Blk X w.heap.size #[.int .i64 sd, .slice ao np cp, .slice bo nc cq] 49 ∧ Below w.heap.size w X ∧ Blk X (w.heap.size + 1) #[.int .i64 0, .slice none 0 0] 25 ∧ X.heap.size = w.heap.size + 1 + 1) := by rw [hX]; exact ⟨(Blk.new rfl).alloc _, ((Below.refl _ _).alloc (Nat.le_refl _) _).alloc (by simp) _, Blk.new (by simp), by simp⟩
  have hX0 : w.heap.size < X.heap.size := BX.out.1.lt
  have HM : ∀ W, Below X.heap.size X W → Hid (Me W (.slice ao np cp) (.slice bo nc cq) np ph nc C) := fun W hb => h.later (BX.out.2.1.trans (hb.mono (Nat.le_of_lt hX0)))
  clear h
  have x0 := BX.out.1.cell (j := 0) rfl
  have x1 := BX.out.1.cell (j := 1) rfl
  have x2 := BX.out.1.cell (j := 2) rfl
  have HCC : Hid (c = Rm.mfault sd np ph nc C) := hc
  clear hc
  go_enter Try.func42, Try.ntmps42
  go_wp2_with fail
  rw [← hX]
  clear hX
  refine (iMf_any (HM _ (Below.refl _ _)).out hp hn).mono ?_
  rintro e w1 ⟨rfl, hb1⟩
  rw [← HCC.out]
  clear x0 x1 x2
  by_cases h0 : c = 0
  · have HC0 : Hid (c = 0) := h0
    have hok := Rm.mfault_ok (HCC.out.symm.trans h0)
    have hp24 : np ≤ 24 := by omega
    have hp0 : 0 < np := by omega
    have hc600 : nc ≤ 600 := by omega
    have HFT : Hid ((np : Int) = sd ∧ Rm.fitsB (np : Int) C nc = true) := ⟨hok.2.2.2.1, by rw [hok.2.2.2.1]; exact hok.2.2.2.2⟩
    clear hok
    rw [HC0.out]
    clear h0
    have hB := BX.out.1.old hb1
    have y0 := hB.cell (j := 0) rfl
    have y1 := hB.cell (j := 1) rfl
    have y2 := hB.cell (j := 2) rfl
    have hl := hB.lt
    clear hB
    have HB1 : Hid (Below X.heap.size X w1) := hb1
    clear hb1
    go_wp2_with fail
    refine (zeroRows_any np np _ (by omega) (by omega)).mono ?_
    rintro e w2 ⟨rfl, hz, hb2⟩
    obtain ⟨m, hm⟩ : ∃ m : Lie, m = newLie w1.heap.size np (fun _ => np) := ⟨_, rfl⟩
    rw [← hm] at hz
    have EM : Hid (w1.heap.size = m.b ∧ np = m.cap ∧ ∀ i, m.os i = 0) := by show w1.heap.size = m.b ∧ np = m.cap ∧ ∀ i, m.os i = 0; rw [hm]; exact ⟨rfl, rfl, fun _ => rfl⟩
    clear hm
    have z12 : w1.heap.size ≤ w2.heap.size := hb2.size
    have zX1 : X.heap.size ≤ w1.heap.size := HB1.out.size
    have H2 : Hid (Mat w1.heap.size w2.heap.size w2 m np (fun _ => np) (fun i j => if i < 0 then unt j i else 0) ∧ Below X.heap.size X w2) := ⟨hz.congr (fun i j _ _ => by simp), HB1.out.trans (hb2.mono zX1)⟩
    clear y0 y1 y2 hl
    clear hz hb2
    go_wp2_with fail
    go_loopw [21] (fun s wr => ∃ i : Nat, i ≤ np ∧ s = .int .i64 i ∧ Hid (Mat w1.heap.size w2.heap.size wr m np (fun _ => np) (fun r j => if r < i then unt j r else 0) ∧ Below X.heap.size X wr ∧ wr.heap.size = w2.heap.size)) (fun s _ => np - (intOf s).toNat)
    case atStart => exact ⟨0, Nat.zero_le _, rfl, H2.out.1, H2.out.2, rfl⟩
    case round =>
      obtain ⟨i, hi, rfl, HS⟩ := hrel
      by_cases hin : i < np
      · have g1 : wr.cell? ⟨w1.heap.size, i, none⟩ = some (.slice (some ⟨m.bs i, 0, none⟩) np (m.cs i)) := by have := HS.out.1.cellRow hin; rw [← EM.out.1, EM.out.2.2] at this; exact this
        have g2 : wr.cell? ⟨m.bs i, i, none⟩ = some (.int .i64 0) := by have := HS.out.1.cellAt hin hin; rw [EM.out.2.2, Nat.zero_add] at this; simpa using this
        have g3 : wr.frozen? ⟨m.bs i, i, none⟩ = false := (HS.out.1.row i hin).frozen _
        have HN : Hid (Mat w1.heap.size w2.heap.size (wr.setCell ⟨m.bs i, i, none⟩ (.int .i64 1)) m np (fun _ => np) (fun r j => if r < i + 1 then unt j r else 0) ∧ Below X.heap.size X (wr.setCell ⟨m.bs i, i, none⟩ (.int .i64 1)) ∧ (wr.setCell ⟨m.bs i, i, none⟩ (.int .i64 1)).heap.size = w2.heap.size) := by
          have h0 := HS.out.1.set hin hin 1
          rw [EM.out.2.2, Nat.zero_add] at h0
          refine ⟨h0.congr fun r j _ _ => ?_, HS.out.2.1.setCell (p := ⟨m.bs i, i, none⟩) (by show X.heap.size ≤ m.bs i; have := HS.out.1.rlo i hin; omega) _, by rw [World.size_setCell]; exact HS.out.2.2⟩
          unfold unt
          by_cases e : r = i
          · subst e
            by_cases e2 : j = r
            · simp [e2]
            · have e3 : ¬ r = j := fun h => e2 h.symm
              simp [e2, e3]
          · by_cases e2 : r < i
            · simp [e, e2, Nat.lt_succ_of_lt e2]
            · have e3 : ¬ r < i + 1 := by omega
              simp [e, e2, e3]
        clear HS
        go_wp2
        exact ⟨⟨i + 1, by omega, by simp, HN⟩, by simp [intOf]; omega⟩
      · obtain rfl : i = np := by omega
        obtain ⟨Z, hZ⟩ : ∃ Z, Z = wr := ⟨_, rfl⟩
        subst hZ
        have HZ : Hid (RdMat Z (.slice (some ⟨w1.heap.size, 0, none⟩) i i) i (fun _ => i) (fun r j => unt j r) ∧ Below X.heap.size X Z) := by
          have h0 := (HS.out.1.congr (G := fun r j => unt j r) (fun r j hr _ => by simp [hr])).rd
          unfold Lie.val at h0
          rw [← EM.out.1, ← EM.out.2.1] at h0
          exact ⟨h0, HS.out.2.1⟩
        clear HS H2
        have hB := BX.out.1.old HZ.out.2
        have y0 := hB.cell (j := 0) rfl
        have y1 := hB.cell (j := 1) rfl
        have y2 := hB.cell (j := 2) rfl
        have hl := hB.lt
        clear hB
        go_wp2_with fail
        refine (lights_any (HM _ HZ.out.2).out HZ.out.1 hp0 (by omega) hp0 (by omega) hc600 HFT.out.2).mono ?_
        rintro e w3 ⟨m', rfl, hm, hb2⟩
        clear y0 y1 y2 hl
        have HB2 : Hid (Below X.heap.size X w3) := HZ.out.2.trans (hb2.mono HZ.out.2.size)
        have zP : X.heap.size ≤ Z.heap.size := HZ.out.2.size
        have HMM : Hid (Mat Z.heap.size w3.heap.size w3 m' i (fun _ => i) (rdm ph C nc)) := hm
        clear hm hb2 HM
        have hB := BX.out.1.old HB2.out
        have y0 := hB.cell (j := 0) rfl
        have y1 := hB.cell (j := 1) rfl
        have y2 := hB.cell (j := 2) rfl
        have hl := hB.lt
        clear hB
        have hR := BX.out.2.2.1.old HB2.out
        have HR : Hid (Blk w3 (w.heap.size + 1) #[.int .i64 0, .slice none 0 0] 25) := hR
        have r0 := hR.cell (j := 0) rfl
        have r1 := hR.cell (j := 1) rfl
        have rf := hR.frozen
        have rl := hR.lt
        clear hR
        go_wp2
        refine bodyPost_ret (res_of (cs := #[.int .i64 0, .slice (some ⟨m'.b, 0, none⟩) i m'.cap]) Try.results42 rfl ((HR.out.set 0 _ rfl).set 1 _ rfl) Try.underlying25 (by kernel_rfl)) rfl ⟨_, by rw [HC0.out], ?_, ?_⟩
        · have hx := BX.out.2.2.2
          exact Or.inr ⟨HC0.out, m', rfl, (mat_two HMM.out (by omega) _ _).wide (by omega) (by simp)⟩
        · exact ((BX.out.2.1.trans (HB2.out.mono (Nat.le_of_lt hX0))).setCell (by simp) _).setCell (by simp) _
  · have h1 : (c != 0) = true := by rw [bne_iff_ne]; exact h0
    have HC0 : Hid (c ≠ 0) := h0
    clear h0
    have hB := BX.out.1.old hb1
    have y0 := hB.cell (j := 0) rfl
    have y1 := hB.cell (j := 1) rfl
    have y2 := hB.cell (j := 2) rfl
    have hl := hB.lt
    clear hB
    have hR := BX.out.2.2.1.old hb1
    have HR : Hid (Blk w1 (w.heap.size + 1) #[.int .i64 0, .slice none 0 0] 25) := hR
    have r0 := hR.cell (j := 0) rfl
    have r1 := hR.cell (j := 1) rfl
    have rf := hR.frozen
    have rl := hR.lt
    clear hR
    have HBW : Hid (Below w.heap.size w w1) := BX.out.2.1.trans (hb1.mono (Nat.le_of_lt hX0))
    clear hb1 HM
    go_wp2
    refine bodyPost_ret (res_of (cs := #[.int .i64 c, .slice none 0 0]) Try.results42 rfl ((HR.out.set 0 _ rfl).set 1 _ rfl) Try.underlying25 (by kernel_rfl)) rfl ⟨_, rfl, Or.inl ⟨HC0.out, rfl⟩, ?_⟩
    exact (HBW.out.setCell (by simp) _).setCell (by simp) _
end Go.Proofs.Ytboppklcmdfphaa
namespace Go.Proofs.Ytboppklcmdfphaa
open Go.RowKit
set_option linter.unusedVariables false
set_option linter.unusedSimpArgs false
theorem meO_four {lo : Nat} {W : World} {v0 v1 : Value} {np nc : Nat} {ph : Nat → Int} {C : Nat → Ce} {r : Nat} {a b c d : Value} (h : MeO lo W.heap.size W v0 v1 np ph nc C) (hr : r < lo) :
    MeO lo ((((W.setCell ⟨r, 0, none⟩ a).setCell ⟨r, 1, none⟩ b).setCell ⟨r, 2, none⟩ c).setCell ⟨r, 3, none⟩ d).heap.size ((((W.setCell ⟨r, 0, none⟩ a).setCell ⟨r, 1, none⟩ b).setCell ⟨r, 2, none⟩ c).setCell ⟨r, 3, none⟩ d) v0 v1 np ph nc C := by
  have := h.keep (w' := ((((W.setCell ⟨r, 0, none⟩ a).setCell ⟨r, 1, none⟩ b).setCell ⟨r, 2, none⟩ c).setCell ⟨r, 3, none⟩ d)) (fun k h1 _ => by
    rw [Below.heap_setCell _ _ _ _ (by show k ≠ r; omega), Below.heap_setCell _ _ _ _ (by show k ≠ r; omega), Below.heap_setCell _ _ _ _ (by show k ≠ r; omega), Below.heap_setCell _ _ _ _ (by show k ≠ r; omega)])
  simpa using this
theorem fields25s : Try.prog.underlying 25 = some (.struct (Try.prog.fieldsOf 25)) := by kernel_rfl
theorem part25_1 (k : Int) (ao : Option Addr) (n cap : Nat) (w : World) : (part 22 #[.int .i64 k, .slice ao n cap] 1).run Try.prog w = .ok (.slice ao n cap) w := by
  simp [part, isAgg, run_underlying Try.underlying22]
theorem field25_1 (k : Int) (ao : Option Addr) (n cap : Nat) (w : World) : (Instr.field 25 (.agg #[.int .i64 k, .slice ao n cap]) 1).run Try.prog w = .ok (.slice ao n cap) w := by
  have h : ((Try.prog.fieldsOf 25)[1]?).map (fun f => (f.type, f.offset)) = some (22, 1) := by kernel_rfl
  obtain ⟨f, hf, e⟩ := Option.map_eq_some_iff.1 h
  simp only [Prod.mk.injEq] at e
  obtain ⟨h1, h2⟩ := e
  have hh : (Try.prog.fieldsOf 25)[1]? = some f := hf
  simp [Instr.field, run_underlying fields25s, hh, h1, h2, asAgg, part25_1]
theorem sFault_nil (w : World) : Calls Try.prog 57 #[.slice none 0 0] w fun e w' => e = .returned (.int .i64 1) ∧ w = w' := by
  go_enter Try.func57, Try.ntmps57
  go_wp2_with fail
  go_loopw [4] (fun i wr => wr = w ∧ i = .int .i64 0) (fun _ _ => 0)
  case atStart => exact ⟨rfl, rfl⟩
  case round =>
    obtain ⟨rfl, rfl⟩ := hrel
    go_wp2
    go_ret
    exact ⟨rfl, rfl⟩
theorem iMany_nil (w : World) : Calls Try.prog 92 #[.slice none 0 0, .int .i64 24] w fun e w' => e = .returned (.bool false) ∧ w = w' := by
  go_enter Try.func92, Try.ntmps92
  go_wp2_with fail
  go_loopw [12] (fun i wr => wr = w ∧ i = .int .i64 0) (fun _ _ => 0)
  case atStart => exact ⟨rfl, rfl⟩
  case round =>
    obtain ⟨rfl, rfl⟩ := hrel
    go_wp2
    go_ret
    exact ⟨rfl, rfl⟩
theorem iFault_nil (w : World) : Calls Try.prog 60 #[.slice none 0 0] w fun e w' => e = .returned (.int .i64 1) ∧ w = w' := by
  go_enter Try.func60, Try.ntmps60
  go_wp2_with fail
  refine (iMany_nil _).mono ?_
  rintro e w1 ⟨rfl, rfl⟩
  go_wp2
  go_ret
  exact ⟨rfl, rfl⟩
theorem sInv_nil (w : World) : Calls Try.prog 14 #[.slice none 0 0] w fun e w' => e = .returned (.agg #[.int .i64 1, .slice none 0 0]) ∧ Below w.heap.size w w' := by
  go_enter Try.func14, Try.ntmps14
  go_wp2_with fail
  refine (sFault_nil _).mono ?_
  rintro e w1 ⟨rfl, rfl⟩
  go_wp2
  refine bodyPost_ret (v := .agg #[.int .i64 1, .slice none 0 0]) (by simp [results, Try.results14, go_sem]) rfl ⟨rfl, ?_⟩
  repeat (first | exact Below.refl _ _ | (refine Below.setCell ?_ (by simp) _) | (refine Below.alloc ?_ (by simp <;> omega) _))
set_option maxRecDepth 20000 in
theorem iProg_nil (w : World) : Calls Try.prog 44 #[.slice none 0 0] w fun e w' => e = .returned (.agg #[.int .i64 1, .int .i64 0, .slice none 0 0, .slice none 0 0]) ∧ Below w.heap.size w w' := by
  go_enter Try.func44, Try.ntmps44
  go_wp2_with fail
  refine (iFault_nil _).mono ?_
  rintro e w1 ⟨rfl, rfl⟩
  go_wp2
  refine bodyPost_ret (v := .agg #[.int .i64 1, .int .i64 0, .slice none 0 0, .slice none 0 0]) (by simp [results, Try.results44, go_sem]) rfl ⟨rfl, ?_⟩
  repeat (first | exact Below.refl _ _ | (refine Below.setCell ?_ (by simp) _) | (refine Below.alloc ?_ (by simp <;> omega) _))
set_option maxRecDepth 20000 in
theorem sProg_nil (w : World) : Calls Try.prog 43 #[.slice none 0 0] w fun e w' => e = .returned (.agg #[.int .i64 1, .int .i64 0, .slice none 0 0, .slice none 0 0]) ∧ Below w.heap.size w w' := by
  obtain ⟨X0, hX0⟩ : ∃ X, X = w.alloc (.cells #[.int .i64 0, .int .i64 0, .slice none 0 0, .slice none 0 0] 61) := ⟨_, rfl⟩
  have HX0 : Hid (Blk X0 w.heap.size #[.int .i64 0, .int .i64 0, .slice none 0 0, .slice none 0 0] 61 ∧ Below w.heap.size w X0) := by rw [hX0]; exact ⟨Blk.new rfl, (Below.refl _ _).alloc (Nat.le_refl _) _⟩
  go_enter Try.func43, Try.ntmps43
  go_wp2_with fail
  rw [← hX0]
  clear hX0
  refine (sInv_nil _).mono ?_
  rintro e w1 ⟨rfl, hb1⟩
  have HW1 : Hid (Blk w1 w.heap.size #[.int .i64 0, .int .i64 0, .slice none 0 0, .slice none 0 0] 61 ∧ Below w.heap.size w w1) := ⟨HX0.out.1.old hb1, HX0.out.2.trans (hb1.mono HX0.out.2.size)⟩
  clear hb1 HX0
  have r0 := HW1.out.1.cell (j := 0) rfl
  have r1 := HW1.out.1.cell (j := 1) rfl
  have r2 := HW1.out.1.cell (j := 2) rfl
  have r3 := HW1.out.1.cell (j := 3) rfl
  have rf := HW1.out.1.frozen
  have rl := HW1.out.1.lt
  go_wp2
  refine bodyPost_ret (res_of (cs := #[.int .i64 1, .int .i64 0, .slice none 0 0, .slice none 0 0]) Try.results43 rfl (((((HW1.out.1).set 0 _ rfl).set 1 _ rfl).set 2 _ rfl).set 3 _ rfl |>.alloc _) Try.underlying61 (by kernel_rfl)) rfl ⟨rfl, ?_⟩
  have h1 := HW1.out.2
  repeat (first | exact h1 | (refine Below.setCell ?_ (by simp <;> omega) _) | (refine Below.alloc ?_ (by simp <;> omega) _))
/-- What UndoMesh answers: c is the mesh's fault. -/
def uA (np nc : Nat) (ph : Nat → Int) (C : Nat → Ce) : Rm.Mx := invOut (rdm ph C nc) np
def uic (np nc : Nat) (ph : Nat → Int) (C : Nat → Ce) : Int := invCode np (fun _ => np) (rdm ph C nc)
def uok (c : Int) (np nc : Nat) (ph : Nat → Int) (C : Nat → Ce) : Prop := c = 0 ∧ uic np nc ph C = 0
def ucd (c : Int) (np nc : Nat) (ph : Nat → Int) (C : Nat → Ce) : Int := if c ≠ 0 then c else if uic np nc ph C ≠ 0 then 1 else pcd np (fun _ => np) (uA np nc ph C)
def usd (c : Int) (np nc : Nat) (ph : Nat → Int) (C : Nat → Ce) : Int := if c = 0 ∧ uic np nc ph C = 0 then psd np (fun _ => np) (uA np nc ph C) else 0
def unp (c : Int) (np nc : Nat) (ph : Nat → Int) (C : Nat → Ce) : Nat := if c = 0 ∧ uic np nc ph C = 0 then pnp np (fun _ => np) (uA np nc ph C) else 0
def unc (c : Int) (np nc : Nat) (ph : Nat → Int) (C : Nat → Ce) : Nat := if c = 0 ∧ uic np nc ph C = 0 then pnc np (fun _ => np) (uA np nc ph C) else 0
theorem unp_le (c : Int) (np nc : Nat) (ph : Nat → Int) (C : Nat → Ce) : unp c np nc ph C ≤ 24 := by unfold unp; split; exact pnp_le _ _ _; omega
theorem unc_le (c : Int) (np nc : Nat) (ph : Nat → Int) (C : Nat → Ce) : unc c np nc ph C ≤ 576 := by unfold unc; split; exact pnc_le _ _ _; omega
theorem u_bad {c : Int} {np nc : Nat} {ph : Nat → Int} {C : Nat → Ce} (h : ¬ uok c np nc ph C) : usd c np nc ph C = 0 ∧ unp c np nc ph C = 0 ∧ unc c np nc ph C = 0 := by (have h' : ¬ (c = 0 ∧ uic np nc ph C = 0) := h); unfold usd unp unc; simp only [if_neg h', and_self]
theorem u_good {c : Int} {np nc : Nat} {ph : Nat → Int} {C : Nat → Ce} (h : uok c np nc ph C) : ucd c np nc ph C = pcd np (fun _ => np) (uA np nc ph C) ∧ usd c np nc ph C = psd np (fun _ => np) (uA np nc ph C) ∧ unp c np nc ph C = pnp np (fun _ => np) (uA np nc ph C) ∧ unc c np nc ph C = pnc np (fun _ => np) (uA np nc ph C) := by
  refine ⟨?_, ?_, ?_, ?_⟩
  · unfold ucd; simp [h.1, h.2]
  · unfold usd; rw [if_pos (show c = 0 ∧ uic np nc ph C = 0 from h)]
  · unfold unp; rw [if_pos (show c = 0 ∧ uic np nc ph C = 0 from h)]
  · unfold unc; rw [if_pos (show c = 0 ∧ uic np nc ph C = 0 from h)]
set_option maxRecDepth 20000 in
set_option maxHeartbeats 3200000 in
theorem iUndo_any {w : World} {ao bo : Option Addr} {np nc cp cq : Nat} {sd : Int} {ph : Nat → Int} {C : Nat → Ce} (h : Me w (.slice ao np cp) (.slice bo nc cq) np ph nc C) (hp : np ≤ 1048576) (hn : nc ≤ 1048576) {c : Int} (hc : c = Rm.mfault sd np ph nc C) :
    Calls Try.prog 49 #[.agg #[.int .i64 sd, .slice ao np cp, .slice bo nc cq]] w fun e w' => ∃ v0 v1, e = .returned (.agg #[.int .i64 (ucd c np nc ph C), .int .i64 (usd c np nc ph C), v0, v1]) ∧ MeO w.heap.size w'.heap.size w' v0 v1 (unp c np nc ph C) (pph np (fun _ => np) (uA np nc ph C)) (unc c np nc ph C) (pC np (fun _ => np) (uA np nc ph C)) ∧ Below w.heap.size w w' := by
  obtain ⟨X, hX⟩ : ∃ X, X = (w.alloc (.cells #[.int .i64 sd, .slice ao np cp, .slice bo nc cq] 49)).alloc (.cells #[.int .i64 0, .int .i64 0, .slice none 0 0, .slice none 0 0] 61) := ⟨_, rfl⟩
  have BX : Hid (Blk X w.heap.size #[.int .i64 sd, .slice ao np cp, .slice bo nc cq] 49 ∧ Below w.heap.size w X ∧ Blk X (w.heap.size + 1) #[.int .i64 0, .int .i64 0, .slice none 0 0, .slice none 0 0] 61 ∧ X.heap.size = w.heap.size + 1 + 1) := by rw [hX]; exact ⟨(Blk.new rfl).alloc _, ((Below.refl _ _).alloc (Nat.le_refl _) _).alloc (by simp) _, Blk.new (by simp), by simp⟩
  have zX : X.heap.size = w.heap.size + 1 + 1 := BX.out.2.2.2
  have HM : Hid (Me X (.slice ao np cp) (.slice bo nc cq) np ph nc C) := h.later BX.out.2.1
  clear h
  have HCC : Hid (c = Rm.mfault sd np ph nc C) := hc
  clear hc
  go_enter Try.func49, Try.ntmps49
  go_wp2_with fail
  rw [← hX]
  clear hX
  refine (iRM_any HM.out hp hn HCC.out).mono ?_
  rintro e w1 ⟨v, rfl, ho, hb1⟩
  have z1 := hb1.size
  have HW1 : Hid (Blk w1 (w.heap.size + 1) #[.int .i64 0, .int .i64 0, .slice none 0 0, .slice none 0 0] 61 ∧ Below w.heap.size w w1) := ⟨BX.out.2.2.1.old hb1, BX.out.2.1.trans (hb1.mono (by omega))⟩
  clear HM BX hb1
  by_cases h0 : c = 0
  · have hok := Rm.mfault_ok (HCC.out.symm.trans h0)
    have hp24 : np ≤ 24 := by omega
    clear hok
    obtain ⟨m, rfl, hm⟩ : ∃ m : Lie, v = .slice (some ⟨m.b, 0, none⟩) np m.cap ∧ Mat X.heap.size w1.heap.size w1 m np (fun _ => np) (rdm ph C nc) := by
      rcases ho with ⟨h1, _⟩ | ⟨_, m, e, hm⟩
      · exact absurd h0 h1
      · exact ⟨m, e, hm⟩
    obtain ⟨Y, hY⟩ : ∃ Y, Y = w1.alloc (.cells #[.int .i64 c, .slice (some ⟨m.b, 0, none⟩) np m.cap] 25) := ⟨_, rfl⟩
    have HY : Hid (Mat 0 Y.heap.size Y m np (fun _ => np) (rdm ph C nc) ∧ Blk Y (w.heap.size + 1) #[.int .i64 0, .int .i64 0, .slice none 0 0, .slice none 0 0] 61 ∧ Below w.heap.size w Y) := by
      rw [hY]
      exact ⟨(hm.alloc _ (Nat.le_refl _)).wide (Nat.zero_le _) (by simp), HW1.out.1.alloc _, HW1.out.2.alloc (by omega) _⟩
    have zY : w1.heap.size + 1 ≤ Y.heap.size := by rw [hY]; simp
    have hc1 : (c != 0) = false := by simp [h0]
    have HC0 : Hid (c = 0) := h0
    clear ho hm HW1 h0
    go_wp2_with fail
    rw [← hY]
    clear hY
    refine (iInvRows_any (La := fun _ => np) HY.out.1 (by omega) (fun _ _ => by omega)).mono ?_
    rintro e w2 ⟨v2, rfl, ho2, hb2⟩
    have z2 := hb2.size
    have HW2 : Hid (Blk w2 (w.heap.size + 1) #[.int .i64 0, .int .i64 0, .slice none 0 0, .slice none 0 0] 61 ∧ Below w.heap.size w w2) := ⟨HY.out.2.1.old hb2, HY.out.2.2.trans (hb2.mono (by omega))⟩
    clear HY hb2
    by_cases hi : uic np nc ph C = 0
    · have HU : Hid (uok c np nc ph C) := ⟨HC0.out, hi⟩
      obtain ⟨m2, rfl, hm2⟩ : ∃ m : Lie, v2 = .slice (some ⟨m.b, 0, none⟩) np m.cap ∧ Mat Y.heap.size w2.heap.size w2 m np (fun _ => np) (uA np nc ph C) := by
        rcases ho2 with ⟨h1, _⟩ | ⟨_, m, e, hm⟩
        · exact absurd hi h1
        · exact ⟨m, e, hm⟩
      have HM2 : Hid (RdMat w2 (.slice (some ⟨m2.b, 0, none⟩) np m2.cap) np (fun _ => np) (uA np nc ph C)) := hm2.rd
      clear ho2 hm2 hi
      have hfl := field25_1
      go_wp2_with fail
      refine (iProg_any _ 0 _ HM2.out (by omega) (fun _ _ => by omega)).mono ?_
      rintro e w3 ⟨v3, v4, rfl, hme, hb3⟩
      obtain ⟨sa, sc, sb, sq, e3, e4⟩ := hme.rd.shape
      subst e3
      subst e4
      have z3 := hb3.size
      have HW3 : Hid (Blk w3 (w.heap.size + 1) #[.int .i64 0, .int .i64 0, .slice none 0 0, .slice none 0 0] 61 ∧ Below w.heap.size w w3) := ⟨HW2.out.1.old hb3, HW2.out.2.trans (hb3.mono (by omega))⟩
      have HME := show Hid _ from hme
      clear HW2 HM2 hme hb3
      have r0 := HW3.out.1.cell (j := 0) rfl
      have r1 := HW3.out.1.cell (j := 1) rfl
      have r2 := HW3.out.1.cell (j := 2) rfl
      have r3 := HW3.out.1.cell (j := 3) rfl
      have rf := HW3.out.1.frozen
      have rl := HW3.out.1.lt
      go_wp2
      obtain ⟨u1, u2, u3, u4⟩ := u_good HU.out
      refine bodyPost_ret (res_of (cs := #[.int .i64 (pcd np (fun _ => np) (uA np nc ph C)), .int .i64 (psd np (fun _ => np) (uA np nc ph C)), .slice sa (pnp np (fun _ => np) (uA np nc ph C)) sc, .slice sb (pnc np (fun _ => np) (uA np nc ph C)) sq]) Try.results49 rfl (((((HW3.out.1).set 0 _ rfl).set 1 _ rfl).set 2 _ rfl).set 3 _ rfl) Try.underlying61 (by kernel_rfl)) rfl ⟨_, _, by rw [u1, u2], ?_, ?_⟩
      · rw [u3, u4]
        exact (meO_four HME.out (by omega)).wide (by omega) (Nat.le_refl _)
      · have h1 := HW3.out.2
        repeat (first | exact h1 | (refine Below.setCell ?_ (by simp <;> omega) _))
    · have HU : Hid (ucd c np nc ph C = 1 ∧ usd c np nc ph C = 0 ∧ unp c np nc ph C = 0 ∧ unc c np nc ph C = 0) := ⟨by unfold ucd; simp [HC0.out, hi], u_bad (fun h => hi h.2)⟩
      obtain rfl : v2 = .slice none 0 0 := by
        rcases ho2 with ⟨_, e⟩ | ⟨h1, _⟩
        · exact e
        · exact absurd h1 hi
      clear ho2 hi
      have hfl := field25_1
      go_wp2_with fail
      refine (iProg_nil _).mono ?_
      rintro e w3 ⟨rfl, hb3⟩
      have z3 := hb3.size
      have HW3 : Hid (Blk w3 (w.heap.size + 1) #[.int .i64 0, .int .i64 0, .slice none 0 0, .slice none 0 0] 61 ∧ Below w.heap.size w w3) := ⟨HW2.out.1.old hb3, HW2.out.2.trans (hb3.mono (by omega))⟩
      clear HW2 hb3
      have r0 := HW3.out.1.cell (j := 0) rfl
      have r1 := HW3.out.1.cell (j := 1) rfl
      have r2 := HW3.out.1.cell (j := 2) rfl
      have r3 := HW3.out.1.cell (j := 3) rfl
      have rf := HW3.out.1.frozen
      have rl := HW3.out.1.lt
      go_wp2
      refine bodyPost_ret (res_of (cs := #[.int .i64 1, .int .i64 0, .slice none 0 0, .slice none 0 0]) Try.results49 rfl (((((HW3.out.1).set 0 _ rfl).set 1 _ rfl).set 2 _ rfl).set 3 _ rfl) Try.underlying61 (by kernel_rfl)) rfl ⟨.slice none 0 0, .slice none 0 0, by rw [HU.out.1, HU.out.2.1], by rw [HU.out.2.2.1, HU.out.2.2.2]; exact MeO.nil _ _ _ _ _, ?_⟩
      have h1 := HW3.out.2
      repeat (first | exact h1 | (refine Below.setCell ?_ (by simp <;> omega) _))
  · have HU : Hid (ucd c np nc ph C = c ∧ usd c np nc ph C = 0 ∧ unp c np nc ph C = 0 ∧ unc c np nc ph C = 0) := ⟨by unfold ucd; simp [h0], u_bad (fun h => h0 h.1)⟩
    obtain rfl : v = .slice none 0 0 := by
      rcases ho with ⟨_, e⟩ | ⟨h1, _⟩
      · exact e
      · exact absurd h1 h0
    have hc1 : (c != 0) = true := by rw [bne_iff_ne]; exact h0
    clear ho h0
    have r0 := HW1.out.1.cell (j := 0) rfl
    have r1 := HW1.out.1.cell (j := 1) rfl
    have r2 := HW1.out.1.cell (j := 2) rfl
    have r3 := HW1.out.1.cell (j := 3) rfl
    have rf := HW1.out.1.frozen
    have rl := HW1.out.1.lt
    go_wp2
    refine bodyPost_ret (res_of (cs := #[.int .i64 c, .int .i64 0, .slice none 0 0, .slice none 0 0]) Try.results49 rfl (((((HW1.out.1).set 0 _ rfl).set 1 _ rfl).set 2 _ rfl).set 3 _ rfl |>.alloc _) Try.underlying61 (by kernel_rfl)) rfl ⟨.slice none 0 0, .slice none 0 0, by rw [HU.out.1, HU.out.2.1], by rw [HU.out.2.2.1, HU.out.2.2.2]; exact MeO.nil _ _ _ _ _, ?_⟩
    have h1 := HW1.out.2
    repeat (first | exact h1 | (refine Below.setCell ?_ (by simp <;> omega) _) | (refine Below.alloc ?_ (by simp <;> omega) _))
end Go.Proofs.Ytboppklcmdfphaa
