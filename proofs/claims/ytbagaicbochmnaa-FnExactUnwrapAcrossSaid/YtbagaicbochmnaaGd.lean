/- Rows that are each built by append, their slices in a block that is written again and again. -/
import Derived.Test.YtbagaicbochmnaaSv
import Derived.Deep.Onto
namespace Go.Proofs.Ytbagaicbochmnaa
open Go.RowKit
set_option linter.unusedVariables false
theorem owns_same {w w' : World} {base n : Nat} {t : TypeId} {v : Value} {xs : List Value} (h : w.ownsRow base t 1 v n xs) (hk : ∀ g, v.ownBlock = some g → w'.heap[g]? = w.heap[g]?) : w'.ownsRow base t 1 v n xs := by
  obtain ⟨h0, h | ⟨g, cap, cur, hv, hg, hh, r⟩⟩ := h
  · exact ⟨h0, Or.inl h⟩
  · exact ⟨h0, Or.inr ⟨g, cap, cur, hv, hg, (hk g (by rw [hv]; rfl)).trans hh, r⟩⟩
/-- The numbers of a row, as values. -/
def rl (K : Rm.Mx) (r n : Nat) : List Value := (List.range n).map fun c => .int .i64 (K r c)
theorem rl_push (K : Rm.Mx) (r k : Nat) : rl K r k ++ [.int .i64 (K r k)] = rl K r (k + 1) := range_push _ k
/-- Empty rows are laid one behind the other. -/
structure Gp (w0 w : World) (v : Value) (i : Nat) (vs : Nat → Value) : Prop where
  own : w.ownsRow w0.heap.size 34 1 v i ((List.range i).map vs)
  rows : ∀ r, r < i → w.ownsRow w0.heap.size 2 1 (vs r) 0 []
  apart : ∀ r r' g, r < i → r' < i → (vs r).ownBlock = some g → (vs r').ownBlock = some g → r = r'
  below : Below w0.heap.size w0 w
theorem gp_start (w0 : World) (vs : Nat → Value) : Gp w0 (w0.alloc (.cells #[] 34)) (.slice (some ⟨w0.heap.size, 0, none⟩) 0 0) 0 vs :=
  ⟨owns_empty w0 34, fun r hr => absurd hr (Nat.not_lt_zero _), fun r _ _ hr => absurd hr (Nat.not_lt_zero _), (Below.refl _ _).alloc (Nat.le_refl _) _⟩
theorem gp_step {w0 w w1 : World} {i : Nat} {v v1 : Value} {vs : Nat → Value} (h : Gp w0 w v i vs)
    (hown : w1.ownsRow w0.heap.size 34 1 v1 (i + 1) ((List.range i).map vs ++ [.slice (some ⟨w.heap.size, 0, none⟩) 0 0]))
    (hgr : ((w.alloc (.cells #[] 2)).alloc (.cells #[.slice (some ⟨w.heap.size, 0, none⟩) 0 0] 34)).grownBy w1 v.ownBlock) :
    Gp w0 w1 v1 (i + 1) (fun r => if r = i then .slice (some ⟨w.heap.size, 0, none⟩) 0 0 else vs r) := by
  have z1 := h.below.size
  have hO : (w.alloc (.cells #[] 2)).ownsRow w0.heap.size 34 1 v i ((List.range i).map vs) := h.own.alloc _
  have hB : Below w0.heap.size w w1 := push_below hO hgr ((Below.refl w0.heap.size w).alloc z1 _) (by simp; omega)
  have key : ∀ k, k < w.heap.size + 1 → (∀ c, w.heap[k]? ≠ some (.cells c 34 (0, 0))) → w1.heap[k]? = (w.alloc (.cells #[] 2)).heap[k]? := fun k hk hc => by
    refine (hgr.block k (by simp; omega) ?_).trans (Below.heap_alloc _ _ _ (by simp; omega))
    intro e
    obtain ⟨_, h1 | ⟨g, cap, cur, hv, hg, hh, _⟩⟩ := h.own
    · rw [h1.1] at e; cases e
    · rw [hv] at e
      simp [Value.ownBlock] at e
      subst e
      exact hc cur hh
  refine ⟨?_, fun r hr => ?_, fun r r' g hr hr' e e' => ?_, h.below.trans hB⟩
  · rw [← range_push]
    have e : (List.range i).map (fun r => if r = i then Value.slice (some ⟨w.heap.size, 0, none⟩) 0 0 else vs r) = (List.range i).map vs := List.map_congr_left fun r hr => by
      have := List.mem_range.1 hr
      rw [if_neg (by omega)]
    rw [e]
    simpa using hown
  · by_cases e : r = i
    · subst e
      simp only [if_true]
      refine owns_same ((owns_empty w 2).mono z1) fun g hg => ?_
      simp [Value.ownBlock] at hg
      subst hg
      exact key _ (by omega) (fun c hc => by have := (Array.getElem?_eq_some_iff.1 hc).1; omega)
    · rw [if_neg e]
      have hr0 := h.rows r (by omega)
      refine owns_same hr0 fun g hg => ?_
      have hlt := (hr0.lt g hg).2
      refine (key g (by omega) ?_).trans (Below.heap_alloc _ _ _ hlt)
      intro c hc
      obtain ⟨_, h1 | ⟨g', cap, cur, hv, _, hh, _⟩⟩ := hr0
      · rw [h1.1] at hg; cases hg
      · rw [hv] at hg
        simp [Value.ownBlock] at hg
        subst hg
        rw [hh] at hc
        simp at hc
  · have lt : ∀ q, q < i + 1 → q ≠ i → ∀ g, (vs q).ownBlock = some g → g < w.heap.size := fun q hq hne g hg => ((h.rows q (by omega)).lt g hg).2
    by_cases a : r = i
    · by_cases b : r' = i
      · omega
      · rw [if_pos a] at e
        rw [if_neg b] at e'
        simp [Value.ownBlock] at e
        have := lt r' hr' b g e'
        omega
    · by_cases b : r' = i
      · rw [if_neg a] at e
        rw [if_pos b] at e'
        simp [Value.ownBlock] at e'
        have := lt r hr a g e
        omega
      · rw [if_neg a] at e
        rw [if_neg b] at e'
        exact h.apart r r' g (by omega) (by omega) e e'
/-- Rows that grow. -/
structure Gr (w0 w : World) (gb n : Nat) (vs : Nat → Value) (len : Nat → Nat) (K : Rm.Mx) : Prop where
  top : Seg w gb 34 0 n vs
  low : w0.heap.size ≤ gb
  rows : ∀ r, r < n → w.ownsRow w0.heap.size 2 1 (vs r) (len r) (rl K r (len r))
  apart : ∀ r r' g, r < n → r' < n → (vs r).ownBlock = some g → (vs r').ownBlock = some g → r = r'
  below : Below w0.heap.size w0 w
theorem Gr.lt {w0 w : World} {gb n : Nat} {vs : Nat → Value} {len : Nat → Nat} {K : Rm.Mx} (h : Gr w0 w gb n vs len K) {r g : Nat} (hr : r < n) (hg : (vs r).ownBlock = some g) : g < w.heap.size := ((h.rows r hr).lt g hg).2
theorem owns_seg_ne {w : World} {base n : Nat} {v : Value} {xs : List Value} (h : w.ownsRow base 2 1 v n xs) {b off m : Nat} {f : Nat → Value} (hs : Seg w b 34 off m f) {g : Nat} (hg : v.ownBlock = some g) : g ≠ b := owns_ne h hs (by decide) g hg
theorem Gr.later {w0 w w' : World} {gb n : Nat} {vs : Nat → Value} {len : Nat → Nat} {K : Rm.Mx} (h : Gr w0 w gb n vs len K) (hb : Below w.heap.size w w') : Gr w0 w' gb n vs len K :=
  ⟨h.top.of_block (hb.block _ h.top.lt), h.low, fun r hr => owns_later (h.rows r hr) hb, h.apart, h.below.trans (hb.mono h.below.size)⟩
theorem Gr.congr {w0 w : World} {gb n : Nat} {vs : Nat → Value} {len len' : Nat → Nat} {K : Rm.Mx} (h : Gr w0 w gb n vs len K) (e : ∀ r, r < n → len r = len' r) : Gr w0 w gb n vs len' K :=
  ⟨h.top, h.low, fun r hr => by rw [← e r hr]; exact h.rows r hr, h.apart, h.below⟩
theorem gr_start {w0 w : World} {gb cg n : Nat} {vs : Nat → Value} (K : Rm.Mx) (h : Gp w0 w (.slice (some ⟨gb, 0, none⟩) n cg) n vs) (hs : Seg w gb 34 0 n vs) (hg : w0.heap.size ≤ gb) : Gr w0 w gb n vs (fun _ => 0) K :=
  ⟨hs, hg, fun r hr => by simpa [rl] using h.rows r hr, h.apart, h.below⟩
theorem gr_key {w0 w wx w1 : World} {gb n i : Nat} {vs : Nat → Value} {len : Nat → Nat} {K : Rm.Mx} {o : Obj} (h : Gr w0 w gb n vs len K) (hi : i < n) (hx : Below w.heap.size w wx) (hxs : wx.heap.size = w.heap.size) (hgr : (wx.alloc o).grownBy w1 (vs i).ownBlock) {k : Nat} (hk : k < w.heap.size) (hne : (vs i).ownBlock ≠ some k) : w1.heap[k]? = w.heap[k]? :=
  (hgr.block k (by simp; omega) (fun e => hne e.symm)).trans ((Below.heap_alloc _ _ _ (by omega)).trans (hx.block k hk))
theorem gr_top {w0 w wx w1 : World} {gb n i : Nat} {vs : Nat → Value} {len : Nat → Nat} {K : Rm.Mx} {o : Obj} (h : Gr w0 w gb n vs len K) (hi : i < n) (hx : Below w.heap.size w wx) (hxs : wx.heap.size = w.heap.size) (hgr : (wx.alloc o).grownBy w1 (vs i).ownBlock) : Seg w1 gb 34 0 n vs :=
  h.top.of_block (gr_key h hi hx hxs hgr h.top.lt fun e => owns_seg_ne (h.rows i hi) h.top e rfl)
/-- What an append to row i and the store behind it leave. -/
theorem gr_step {w0 w wx w1 : World} {gb n i g' cap : Nat} {vs : Nat → Value} {len : Nat → Nat} {K : Rm.Mx} {o : Obj} (h : Gr w0 w gb n vs len K) (hi : i < n) (hx : Below w.heap.size w wx) (hxs : wx.heap.size = w.heap.size)
    (hown : w1.ownsRow w0.heap.size 2 1 (.slice (some ⟨g', 0, none⟩) (len i + 1) cap) (len i + 1) (rl K i (len i + 1))) (hgr : (wx.alloc o).grownBy w1 (vs i).ownBlock) (hat : (vs i).ownBlock = some g' ∨ g' = w.heap.size + 1) :
    Gr w0 (w1.setCell ⟨gb, i, none⟩ (.slice (some ⟨g', 0, none⟩) (len i + 1) cap)) gb n (fun r => if r = i then .slice (some ⟨g', 0, none⟩) (len i + 1) cap else vs r) (fun r => if r = i then len i + 1 else len r) K := by
  have z1 := h.below.size
  have key : ∀ k, k < w.heap.size → (vs i).ownBlock ≠ some k → w1.heap[k]? = w.heap[k]? := fun k hk hne =>
    (hgr.block k (by simp; omega) (fun e => hne e.symm)).trans ((Below.heap_alloc _ _ _ (by omega)).trans (hx.block k hk))
  have hne : ∀ r, r < n → (vs r).ownBlock ≠ some gb := fun r hr e => owns_seg_ne (h.rows r hr) h.top e rfl
  have t1 : Seg w1 gb 34 0 n vs := h.top.of_block (key gb h.top.lt (hne i hi))
  have t2 := t1.set i hi (.slice (some ⟨g', 0, none⟩) (len i + 1) cap)
  rw [Nat.zero_add] at t2
  have g1 : g' ≠ gb := owns_seg_ne hown t1 rfl
  have hB : Below w0.heap.size w w1 := by
    refine ⟨hgr.os.trans hx.os, hgr.tape.trans hx.tape, hgr.output.trans hx.output, ?_, fun k hk => ?_⟩
    · have := hgr.size; simp at this; omega
    · refine key k (by omega) fun e => ?_
      have := ((h.rows i hi).lt k e).1
      omega
  refine ⟨t2.congr fun r hr => by by_cases e : r = i <;> simp [e], h.low, fun r hr => ?_, fun r r' g hr hr' e e' => ?_, (h.below.trans hB).setCell (p := ⟨gb, i, none⟩) h.low _⟩
  · by_cases e : r = i
    · subst e
      simp only [if_true]
      refine owns_same hown fun g hg => Below.heap_setCell _ _ _ _ ?_
      simp [Value.ownBlock] at hg
      show g ≠ gb
      omega
    · rw [if_neg e, if_neg e]
      refine owns_same (h.rows r hr) fun g hg => ?_
      have hlt := h.lt hr hg
      refine (Below.heap_setCell _ _ _ _ (by show g ≠ gb; intro c; subst c; exact hne r hr hg)).trans (key g hlt fun c => e (h.apart r i g hr hi hg c))
  · by_cases a : r = i
    · by_cases b : r' = i
      · omega
      · rw [if_pos a] at e
        rw [if_neg b] at e'
        simp [Value.ownBlock] at e
        subst e
        rcases hat with c | c
        · exact absurd (h.apart i r' _ hi hr' c e').symm b
        · have := h.lt hr' e'
          omega
    · by_cases b : r' = i
      · rw [if_neg a] at e
        rw [if_pos b] at e'
        simp [Value.ownBlock] at e'
        subst e'
        rcases hat with c | c
        · exact absurd (h.apart i r _ hi hr c e).symm a
        · have := h.lt hr e
          omega
      · rw [if_neg a] at e
        rw [if_neg b] at e'
        exact h.apart r r' g hr hr' e e'
theorem gr_step' {w0 w wx w1 : World} {gb n i g' cap ln : Nat} {vs : Nat → Value} {len : Nat → Nat} {K : Rm.Mx} {o : Obj} (h : Gr w0 w gb n vs len K) (hi : i < n) (hl : len i = ln) (hx : Below w.heap.size w wx) (hxs : wx.heap.size = w.heap.size)
    (hown : w1.ownsRow w0.heap.size 2 1 (.slice (some ⟨g', 0, none⟩) (ln + 1) cap) (ln + 1) (rl K i (ln + 1))) (hgr : (wx.alloc o).grownBy w1 (vs i).ownBlock) (hat : (vs i).ownBlock = some g' ∨ g' = w.heap.size + 1) :
    Gr w0 (w1.setCell ⟨gb, i, none⟩ (.slice (some ⟨g', 0, none⟩) (ln + 1) cap)) gb n (fun r => if r = i then .slice (some ⟨g', 0, none⟩) (ln + 1) cap else vs r) (fun r => if r = i then ln + 1 else len r) K := by
  subst hl
  exact gr_step h hi hx hxs hown hgr hat
theorem gr_rd {w0 w : World} {gb cg n m : Nat} {vs : Nat → Value} {K : Rm.Mx} (h : Gr w0 w gb n vs (fun _ => m) K) : RdMat w (.slice (some ⟨gb, 0, none⟩) n cg) n (fun _ => m) K := by
  refine Or.inr ⟨gb, 0, cg, vs, rfl, fun r hr => ⟨h.top.cell hr, ?_⟩⟩
  by_cases hm : 0 < m
  · obtain ⟨g, cap, e, _, hs⟩ := owned_seg (h.rows r hr) hm
    rw [e]
    exact hs.rd
  · obtain rfl : m = 0 := by omega
    obtain ⟨_, h1 | ⟨g, cap, cur, hv, _⟩⟩ := h.rows r hr
    · rw [h1.1]; exact Or.inl ⟨_, _, rfl, rfl⟩
    · rw [hv]; exact Or.inl ⟨_, _, rfl, rfl⟩
theorem gr_out {w0 w : World} {gb cg n m b : Nat} {vs : Nat → Value} {K : Rm.Mx} (h : Gr w0 w gb n vs (fun _ => m) K) (hm : 0 < m) (hb : b < w0.heap.size) (x y : Value) :
    RdMat ((w.setCell ⟨b, 0, none⟩ x).setCell ⟨b, 1, none⟩ y) (.slice (some ⟨gb, 0, none⟩) n cg) n (fun _ => m) K := by
  have hlow := h.low
  refine Or.inr ⟨gb, 0, cg, vs, rfl, fun r hr => ⟨?_, ?_⟩⟩
  · exact ((h.top.setOther (a := ⟨b, 0, none⟩) (by show gb ≠ b; omega) _).setOther (a := ⟨b, 1, none⟩) (by show gb ≠ b; omega) _).cell hr
  · obtain ⟨g, cap, e, hg, hs⟩ := owned_seg (h.rows r hr) hm
    rw [e]
    exact ((hs.setOther (a := ⟨b, 0, none⟩) (by show g ≠ b; omega) _).setOther (a := ⟨b, 1, none⟩) (by show g ≠ b; omega) _).rd
/-- 'append(row, x)' as one step of a region that draws its order, and where the new row lies. -/
theorem step_lies {ops : Array Oper} {o : Oper} {a : Act} {K : Act → World → Prop} {Q : Exit → Act → World → Prop} {E : Prop} (hg : o.guard = none) (s x : Operand) (t : TypeId)
    (hop : o.op = Op.call { callee := Callee.builtin Builtin.append, args := #[s, x], argTypes := #[t, t] }) (e : TypeId) (z : Value) (bytes : Nat) (ht : Try.prog.underlying t = some (.slice e))
    (hinfo : (Try.prog.info? e).map (fun i => (i.zero, i.size, i.bytes)) = some (some z, 1, bytes)) (hz1 : z.cells.size = 1) (hby : bytes ≤ 24) {W : World} (w : World) (u : Value) (hW : W = w.alloc (.cells #[u] e)) (hu : u.oneCell' = true)
    (base : Nat) (v : Value) (n : Nat) (xs : List Value) (hs : a.eval s = v) (hown : w.ownsRow base e 1 v n xs) (c : Nat) (hx : a.eval x = .slice (some ⟨w.heap.size, 0, none⟩) 1 c) (hn : n ≤ 2000000) (hbase : base ≤ w.heap.size)
    (hK : ∀ g cap w', w'.ownsRow base e 1 (.slice (some ⟨g, 0, none⟩) (n + 1) cap) (n + 1) (xs ++ [u]) → (w.alloc (.cells #[u] e)).grownBy w' v.ownBlock → (v.ownBlock = some g ∨ g = w.heap.size + 1) → g < w'.heap.size → K (a.put o.dst (.slice (some ⟨g, 0, none⟩) (n + 1) cap)) w') :
    if Region.wanted o (yielded ops a.tmps) = true then Oper.wp Try.prog o a W K Q else E := by
  subst hW
  have hw : Region.wanted o (yielded ops a.tmps) = true := by simp [Region.wanted, hg]
  rw [if_pos hw]
  obtain ⟨i, h1, h2, h3, h4⟩ := info_parts hinfo
  refine wp_append_lies (P := Try.prog) (w.alloc (.cells #[u] e)) s x t hop base e i z 1 bytes ht h1 h2 h3 h4 hz1 (by decide) v n xs hs (hown.alloc _) ⟨w.heap.size, 0, none⟩ 1 c [u] hx rfl ?_ ?_ (by decide) ?_ ?_ ?_ (w.heap.size + 1) (by simp) fun g cap w' a1 a2 a3 a4 => hK g cap w' a1 a2 a3 a4
  · intro j y hj
    match j, hj with
    | 0, hj => simp at hj; subst hj; simp [Addr.add]
  · intro y hy
    simp at hy
    subst hy
    exact hu
  · unfold maxLen; omega
  · have : (n + 1) * bytes ≤ (n + 1) * 24 := Nat.mul_le_mul_left _ hby
    omega
  · simp; omega
end Go.Proofs.Ytbagaicbochmnaa
