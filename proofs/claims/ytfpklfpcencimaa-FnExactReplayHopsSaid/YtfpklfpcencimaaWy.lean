/- The way that stands at the last of its nodes: what memory it has, and the contracts of what only reads it. -/
import Derived.Test.YtfpklfpcencimaaCt
import Derived.Test.YtfpklfpcencimaaRo
import Derived.Test.YtfpklfpcencimaaAp
namespace Go.Proofs.Ytfpklfpcencimaa
open Go.RowKit
set_option linter.unusedVariables false
set_option linter.unusedSimpArgs false
def ints (xs : List Int) : List Value := xs.map fun x => .int .i64 x
theorem ints_len (xs : List Int) : (ints xs).length = xs.length := by simp [ints]
theorem ints_snoc (xs : List Int) (x : Int) : ints (xs ++ [x]) = ints xs ++ [.int .i64 x] := by simp [ints]
theorem ints_at (xs : List Int) (i : Nat) (h : i < xs.length) : (ints xs)[i]? = some (.int .i64 (xs.getD i 0)) := by
  unfold ints
  rw [List.getElem?_map, List.getElem?_eq_getElem h]
  simp [List.getD, h]
def lst (xs : List Int) : Int := xs.getD (xs.length - 1) 0
def cam (ps : List Int) : Int := if ps = [] then -1 else lst ps
theorem cam_nil : cam [] = -1 := rfl
theorem cam_some {ps : List Int} (h : ps ≠ []) : cam ps = lst ps := if_neg h
theorem lst_snoc (xs : List Int) (x : Int) : lst (xs ++ [x]) = x := by simp [lst]
/-- A list of numbers that lies in memory of its own, from lo on. -/
def Ol (w : World) (lo : Nat) (v : Value) (xs : List Int) : Prop := w.ownsRow lo 2 1 v xs.length (ints xs)
theorem Ol.form {w : World} {lo : Nat} {v : Value} {xs : List Int} (h : Ol w lo v xs) : ∃ ao cap, v = .slice ao xs.length cap ∧ xs.length ≤ cap := by
  obtain ⟨_, h1 | ⟨g, cap, cur, hv, hg, hh, h1, h2, h3, h4⟩⟩ := h
  · rw [h1.2]; exact ⟨_, _, h1.1, Nat.le_refl _⟩
  · exact ⟨_, _, hv, by omega⟩
theorem Ol.rd {w : World} {lo : Nat} {v : Value} {xs : List Int} (h : Ol w lo v xs) : RdRow w v xs.length (fun i => xs.getD i 0) := by
  obtain ⟨_, h1 | ⟨g, cap, cur, hv, hg, hh, h1, h2, h3, h4⟩⟩ := h
  · exact Or.inl ⟨none, 0, h1.1, h1.2⟩
  · refine Or.inr ⟨g, 0, cap, hv, fun i hi => ?_⟩
    have e : (cur.toList.take (xs.length * 1))[i]? = (ints xs)[i]? := by rw [h4]
    rw [List.getElem?_take_of_lt (by omega), ints_at xs i hi] at e
    unfold World.cell?
    rw [hh]
    simp only [Nat.zero_add]
    rw [← Array.getElem?_toList]
    exact e
theorem Ol.later {w w' : World} {lo : Nat} {v : Value} {xs : List Int} (h : Ol w lo v xs) (hb : Below w.heap.size w w') : Ol w' lo v xs := ownsV_later h hb
theorem Ol.low {w : World} {lo lo' : Nat} {v : Value} {xs : List Int} (h : Ol w lo v xs) (hl : lo' ≤ lo) : Ol w lo' v xs := by
  obtain ⟨h0, h1 | ⟨g, cap, cur, hv, hg, r⟩⟩ := h
  · exact ⟨h0, Or.inl h1⟩
  · exact ⟨h0, Or.inr ⟨g, cap, cur, hv, Nat.le_trans hl hg, r⟩⟩
theorem Ol.keepOn {w w' : World} {lo : Nat} {v : Value} {xs : List Int} (h : Ol w lo v xs) (hk : ∀ k, v.ownBlock = some k → w'.heap[k]? = w.heap[k]?) : Ol w' lo v xs := by
  obtain ⟨h0, h1 | ⟨g, cap, cur, hv, hg, hh, r⟩⟩ := h
  · exact ⟨h0, Or.inl h1⟩
  · exact ⟨h0, Or.inr ⟨g, cap, cur, hv, hg, (hk g (by rw [hv]; rfl)).trans hh, r⟩⟩
theorem Ol.one (w : World) (x : Int) : Ol (w.alloc (.cells #[.int .i64 x] 2)) w.heap.size (.slice (some ⟨w.heap.size, 0, none⟩) 1 1) [x] := owns_one w 2 (.int .i64 x)
theorem Ol.pop {w : World} {lo cap : Nat} {ao : Option Addr} {xs : List Int} {x : Int} (h : Ol w lo (.slice ao (xs.length + 1) cap) (xs ++ [x])) : Ol w lo (.slice ao xs.length cap) xs := by
  obtain ⟨h0, h1 | ⟨g, c, cur, hv, hg, hh, h1, h2, h3, h4⟩⟩ := h
  · have := h1.2; simp at this
  · simp only [Value.slice.injEq] at hv
    obtain ⟨rfl, _, rfl⟩ := hv
    have hl : (xs ++ [x]).length = xs.length + 1 := by simp
    refine ⟨by rw [ints_len]; omega, Or.inr ⟨g, cap, cur, rfl, hg, hh, by omega, h2, h3, ?_⟩⟩
    have : cur.toList.take (xs.length * 1) = (cur.toList.take ((xs ++ [x]).length * 1)).take (xs.length * 1) := by rw [List.take_take, hl]; congr 1; omega
    rw [this, h4, ints_snoc]
    rw [List.take_append_of_le_length (by rw [ints_len]; omega)]
    rw [List.take_of_length_le (by rw [ints_len]; omega)]
/-- A channel that holds nothing, with room for one. -/
def Chn (w : World) (c : Nat) : Prop := ∃ s r, w.heap[c]? = some (.chan 1 #[] false s r false)
theorem Chn.later {w w' : World} {c : Nat} (h : Chn w c) (hb : Below w.heap.size w w') : Chn w' c := by
  obtain ⟨s, r, h⟩ := h
  exact ⟨s, r, (hb.block c (Array.getElem?_eq_some_iff.1 h).1).trans h⟩
/-- The way's block wb, its nodes and its path, its three channels; all of it from lo on. -/
structure Wb (w : World) (lo wb : Nat) (nodes slots : Int) (ao : Option Addr) (nf cp : Nat) (vn vp : Value) (c0 c1 c2 : Nat) (ns ps : List Int) : Prop where
  blk : Blk w wb #[.int .i64 nodes, .int .i64 slots, .slice ao nf cp, vn, vp, .chan (some c0), .chan (some c1), .chan (some c2)] 82
  nl : Ol w lo vn ns
  pl : Ol w lo vp ps
  ap : ∀ g, vn.ownBlock = some g → vp.ownBlock ≠ some g
  k0 : Chn w c0
  k1 : Chn w c1
  k2 : Chn w c2
  d01 : c0 ≠ c1
  d02 : c0 ≠ c2
  d12 : c1 ≠ c2
  lw : lo ≤ wb
  l0 : lo ≤ c0
  l1 : lo ≤ c1
  l2 : lo ≤ c2
theorem Wb.later {w w' : World} {lo wb : Nat} {nodes slots : Int} {ao : Option Addr} {nf cp : Nat} {vn vp : Value} {c0 c1 c2 : Nat} {ns ps : List Int} (h : Wb w lo wb nodes slots ao nf cp vn vp c0 c1 c2 ns ps) (hb : Below w.heap.size w w') : Wb w' lo wb nodes slots ao nf cp vn vp c0 c1 c2 ns ps :=
  { h with blk := h.blk.old hb, nl := h.nl.later hb, pl := h.pl.later hb, k0 := h.k0.later hb, k1 := h.k1.later hb, k2 := h.k2.later hb }
section
variable {w : World} {lo wb : Nat} {nodes slots : Int} {ao : Option Addr} {nf cp : Nat} {vn vp : Value} {c0 c1 c2 : Nat} {ns ps : List Int}
set_option maxRecDepth 20000 in
set_option maxHeartbeats 1600000 in
theorem node_any (h : Wb w lo wb nodes slots ao nf cp vn vp c0 c1 c2 ns ps) (h0 : ns ≠ []) (hl : ns.length ≤ 1048576) :
    Calls Try.prog 57 #[.pointer (some ⟨wb, 0, none⟩)] w fun e w' => e = .returned (.int .i64 (lst ns)) ∧ Below w.heap.size w w' := by
  obtain ⟨ao1, cap1, rfl, hc1⟩ := h.nl.form
  obtain ⟨k, hk⟩ : ∃ k, ns.length = k + 1 := ⟨ns.length - 1, by have := List.length_pos_iff.2 h0; omega⟩
  have hr := h.nl.rd
  have hL : Hid (lst ns = ns.getD k 0) := by show lst ns = _; unfold lst; rw [hk]; rfl
  rw [hk] at hr hc1
  obtain ⟨b, off, rfl, hc⟩ := RdRow.at hr (Nat.lt_succ_self k)
  have x3 := h.blk.cell (j := 3) (v := .slice (some ⟨b, off, none⟩) (k + 1) cap1) (by rw [← hk]; rfl)
  have hkI : (k : Int) ≤ 1048576 := by omega
  have hH : Hid (Below w.heap.size w w) := Below.refl _ _
  clear h hr hc1 hk hl
  rw [hL.out]
  obtain ⟨q, hq⟩ : ∃ q, q = ns.getD k 0 := ⟨_, rfl⟩
  rw [← hq] at hc ⊢
  clear hL h0 hq
  go_enter Try.func57, Try.ntmps57
  go_wp2_with fail
  go_quiet (fail)
  go_wp2
  go_ret
  exact ⟨rfl, below_drewN (Below.refl _ _) _⟩
set_option maxRecDepth 20000 in
set_option maxHeartbeats 1600000 in
theorem came_any (h : Wb w lo wb nodes slots ao nf cp vn vp c0 c1 c2 ns ps) (hl : ps.length ≤ 1048576) :
    Calls Try.prog 59 #[.pointer (some ⟨wb, 0, none⟩)] w fun e w' => e = .returned (.int .i64 (cam ps)) ∧ Below w.heap.size w w' := by
  obtain ⟨ao1, cap1, rfl, hc1⟩ := h.pl.form
  by_cases h0 : ps = []
  · subst h0
    rw [cam_nil]
    have x4 := h.blk.cell (j := 4) (v := .slice ao1 0 cap1) rfl
    clear h hc1 hl
    go_enter Try.func59, Try.ntmps59
    go_wp2
    go_ret
    exact ⟨rfl, by go_grown⟩
  · rw [cam_some h0]
    obtain ⟨k, hk⟩ : ∃ k, ps.length = k + 1 := ⟨ps.length - 1, by have := List.length_pos_iff.2 h0; omega⟩
    have hr := h.pl.rd
    have hL : Hid (lst ps = ps.getD k 0) := by show lst ps = _; unfold lst; rw [hk]; rfl
    rw [hk] at hr hc1
    obtain ⟨b, off, rfl, hc⟩ := RdRow.at hr (Nat.lt_succ_self k)
    have x4 := h.blk.cell (j := 4) (v := .slice (some ⟨b, off, none⟩) (k + 1) cap1) (by rw [← hk]; rfl)
    have hkI : (k : Int) ≤ 1048576 := by omega
    clear h hr hc1 hk hl
    rw [hL.out]
    obtain ⟨q, hq⟩ : ∃ q, q = ps.getD k 0 := ⟨_, rfl⟩
    rw [← hq] at hc ⊢
    clear hL h0 hq
    go_enter Try.func59, Try.ntmps59
    go_wp2_with fail
    go_quiet (fail)
    go_wp2
    go_ret
    exact ⟨rfl, below_drewN (Below.refl _ _) _⟩
end
end Go.Proofs.Ytfpklfpcencimaa
