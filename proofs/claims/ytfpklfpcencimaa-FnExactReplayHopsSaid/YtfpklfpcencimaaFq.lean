/- Where a hop leads: the fields of a way that grow and shrink. -/
import Derived.Test.YtfpklfpcencimaaFo
namespace Go.Proofs.Ytfpklfpcencimaa
open Go.RowKit Go.Conc
set_option linter.unusedVariables false
set_option linter.unusedSimpArgs false
section
variable {w w4 : World} {lo wb : Nat} {nodes slots : Int} {ao an ap a4 : Option Addr} {nf cp cn cq c4 : Nat} {c0 c1 c2 : Nat} {ns ps : List Int} {x : Int} {vn vp : Value}
theorem push_nodes (h : Wb w lo wb nodes slots ao nf cp (.slice an ns.length cn) vp c0 c1 c2 ns ps) (hlo : lo ≤ w.heap.size) (ho : Ol w4 lo (.slice a4 (ns.length + 1) c4) (ns ++ [x])) (hg : (w.alloc (.cells #[.int .i64 x] 2)).grownBy w4 (Value.slice an ns.length cn).ownBlock) (hp : (Value.slice a4 (ns.length + 1) c4).ownBlock = (Value.slice an ns.length cn).ownBlock ∨ (Value.slice a4 (ns.length + 1) c4).ownBlock = some (w.heap.size + 1)) :
    Blk w4 wb #[.int .i64 nodes, .int .i64 slots, .slice ao nf cp, (.slice an ns.length cn), vp, .chan (some c0), .chan (some c1), .chan (some c2)] 82 ∧ Wb (w4.setCell ⟨wb, 3, none⟩ (.slice a4 (ns.length + 1) c4)) lo wb nodes slots ao nf cp (.slice a4 (ns.length + 1) c4) vp c0 c1 c2 (ns ++ [x]) ps ∧ Below lo w (w4.setCell ⟨wb, 3, none⟩ (.slice a4 (ns.length + 1) c4)) ∧ (∀ b cs t, t ≠ 2 → b ≠ wb → Blk w b cs t → Blk (w4.setCell ⟨wb, 3, none⟩ (.slice a4 (ns.length + 1) c4)) b cs t) ∧ w.heap.size ≤ (w4.setCell ⟨wb, 3, none⟩ (.slice a4 (ns.length + 1) c4)).heap.size := by
  have key : ∀ k, k < w.heap.size → some k ≠ (Value.slice an ns.length cn).ownBlock → w4.heap[k]? = w.heap[k]? := fun k hk hn => (hg.block k (by simp; omega) hn).trans (Below.heap_alloc _ _ _ hk)
  have B4 : Blk w4 wb #[.int .i64 nodes, .int .i64 slots, .slice ao nf cp, (.slice an ns.length cn), vp, .chan (some c0), .chan (some c1), .chan (some c2)] 82 := (key wb h.blk.lt fun e => h.nl.blkNe h.blk (by decide) wb e.symm rfl).trans h.blk
  have hap : ∀ g, (Value.slice a4 (ns.length + 1) c4).ownBlock = some g → vp.ownBlock ≠ some g := by
    intro g hg2 hg3
    rcases hp with e | e
    · exact h.ap g (e.symm.trans hg2) hg3
    · have := (h.pl.lt g hg3).2
      rw [e] at hg2
      simp at hg2
      omega
  have hch : ∀ c, Chn w c → Chn (w4.setCell ⟨wb, 3, none⟩ (.slice a4 (ns.length + 1) c4)) c := by
    intro c hc
    have hc2 : Chn w4 c := by
      obtain ⟨s, r, hh⟩ := hc
      exact ⟨s, r, (key c (Array.getElem?_eq_some_iff.1 hh).1 fun e => h.nl.ownNe ⟨s, r, hh⟩ c e.symm rfl).trans hh⟩
    exact chn_set hc2 _ (Ne.symm (h.blk.chanNe hc)) _
  have hmy : Ol (w4.setCell ⟨wb, 3, none⟩ (.slice a4 (ns.length + 1) c4)) lo (.slice a4 (ns.length + 1) c4) (ns ++ [x]) := ho.keepOn fun k hk => Below.heap_setCell _ _ _ _ (ho.blkNe B4 (by decide) k hk)
  have hot : Ol (w4.setCell ⟨wb, 3, none⟩ (.slice a4 (ns.length + 1) c4)) lo vp ps := h.pl.keepOn fun k hk => (Below.heap_setCell _ _ _ _ (h.pl.blkNe h.blk (by decide) k hk)).trans (key k (h.pl.lt k hk).2 (fun e => h.ap k e.symm hk))
  have hbl : Below lo w (w4.setCell ⟨wb, 3, none⟩ (.slice a4 (ns.length + 1) c4)) := (((Below.refl lo w).alloc hlo _).grown hg (by simp; omega) fun k hk => (h.nl.lt k hk).1).setCell h.lw _
  refine ⟨B4, { h with blk := B4.set 3 _ rfl, nl := hmy, pl := hot, ap := hap, k0 := hch _ h.k0, k1 := hch _ h.k1, k2 := hch _ h.k2 }, hbl, ?_, hbl.size⟩
  intro b cs t ht hb hB
  exact (Below.heap_setCell _ _ _ _ hb).trans ((key b hB.lt fun e => h.nl.blkNe hB ht b e.symm rfl).trans hB)
theorem push_path (h : Wb w lo wb nodes slots ao nf cp vn (.slice ap ps.length cq) c0 c1 c2 ns ps) (hlo : lo ≤ w.heap.size) (ho : Ol w4 lo (.slice a4 (ps.length + 1) c4) (ps ++ [x])) (hg : (w.alloc (.cells #[.int .i64 x] 2)).grownBy w4 (Value.slice ap ps.length cq).ownBlock) (hp : (Value.slice a4 (ps.length + 1) c4).ownBlock = (Value.slice ap ps.length cq).ownBlock ∨ (Value.slice a4 (ps.length + 1) c4).ownBlock = some (w.heap.size + 1)) :
    Blk w4 wb #[.int .i64 nodes, .int .i64 slots, .slice ao nf cp, vn, (.slice ap ps.length cq), .chan (some c0), .chan (some c1), .chan (some c2)] 82 ∧ Wb (w4.setCell ⟨wb, 4, none⟩ (.slice a4 (ps.length + 1) c4)) lo wb nodes slots ao nf cp vn (.slice a4 (ps.length + 1) c4) c0 c1 c2 ns (ps ++ [x]) ∧ Below lo w (w4.setCell ⟨wb, 4, none⟩ (.slice a4 (ps.length + 1) c4)) ∧ (∀ b cs t, t ≠ 2 → b ≠ wb → Blk w b cs t → Blk (w4.setCell ⟨wb, 4, none⟩ (.slice a4 (ps.length + 1) c4)) b cs t) ∧ w.heap.size ≤ (w4.setCell ⟨wb, 4, none⟩ (.slice a4 (ps.length + 1) c4)).heap.size := by
  have key : ∀ k, k < w.heap.size → some k ≠ (Value.slice ap ps.length cq).ownBlock → w4.heap[k]? = w.heap[k]? := fun k hk hn => (hg.block k (by simp; omega) hn).trans (Below.heap_alloc _ _ _ hk)
  have B4 : Blk w4 wb #[.int .i64 nodes, .int .i64 slots, .slice ao nf cp, vn, (.slice ap ps.length cq), .chan (some c0), .chan (some c1), .chan (some c2)] 82 := (key wb h.blk.lt fun e => h.pl.blkNe h.blk (by decide) wb e.symm rfl).trans h.blk
  have hap : ∀ g, vn.ownBlock = some g → (Value.slice a4 (ps.length + 1) c4).ownBlock ≠ some g := by
    intro g hg2 hg3
    rcases hp with e | e
    · exact h.ap g hg2 (e.symm.trans hg3)
    · have := (h.nl.lt g hg2).2
      rw [e] at hg3
      simp at hg3
      omega
  have hch : ∀ c, Chn w c → Chn (w4.setCell ⟨wb, 4, none⟩ (.slice a4 (ps.length + 1) c4)) c := by
    intro c hc
    have hc2 : Chn w4 c := by
      obtain ⟨s, r, hh⟩ := hc
      exact ⟨s, r, (key c (Array.getElem?_eq_some_iff.1 hh).1 fun e => h.pl.ownNe ⟨s, r, hh⟩ c e.symm rfl).trans hh⟩
    exact chn_set hc2 _ (Ne.symm (h.blk.chanNe hc)) _
  have hmy : Ol (w4.setCell ⟨wb, 4, none⟩ (.slice a4 (ps.length + 1) c4)) lo (.slice a4 (ps.length + 1) c4) (ps ++ [x]) := ho.keepOn fun k hk => Below.heap_setCell _ _ _ _ (ho.blkNe B4 (by decide) k hk)
  have hot : Ol (w4.setCell ⟨wb, 4, none⟩ (.slice a4 (ps.length + 1) c4)) lo vn ns := h.nl.keepOn fun k hk => (Below.heap_setCell _ _ _ _ (h.nl.blkNe h.blk (by decide) k hk)).trans (key k (h.nl.lt k hk).2 (fun e => h.ap k hk e.symm))
  have hbl : Below lo w (w4.setCell ⟨wb, 4, none⟩ (.slice a4 (ps.length + 1) c4)) := (((Below.refl lo w).alloc hlo _).grown hg (by simp; omega) fun k hk => (h.pl.lt k hk).1).setCell h.lw _
  refine ⟨B4, { h with blk := B4.set 4 _ rfl, pl := hmy, nl := hot, ap := hap, k0 := hch _ h.k0, k1 := hch _ h.k1, k2 := hch _ h.k2 }, hbl, ?_, hbl.size⟩
  intro b cs t ht hb hB
  exact (Below.heap_setCell _ _ _ _ hb).trans ((key b hB.lt fun e => h.pl.blkNe hB ht b e.symm rfl).trans hB)
theorem pop_nodes (h : Wb w lo wb nodes slots ao nf cp (.slice an (ns.length + 1) cn) vp c0 c1 c2 (ns ++ [x]) (ps)) :
    Wb (w.setCell ⟨wb, 3, none⟩ (.slice an ns.length cn)) lo wb nodes slots ao nf cp (.slice an ns.length cn) vp c0 c1 c2 ns ps ∧ Below lo w (w.setCell ⟨wb, 3, none⟩ (.slice an ns.length cn)) ∧ (∀ b cs t, b ≠ wb → Blk w b cs t → Blk (w.setCell ⟨wb, 3, none⟩ (.slice an ns.length cn)) b cs t) := by
  have hch : ∀ c, Chn w c → Chn (w.setCell ⟨wb, 3, none⟩ (.slice an ns.length cn)) c := fun c hc => chn_set hc _ (Ne.symm (h.blk.chanNe hc)) _
  have hm := h.nl.pop
  have hmy : Ol (w.setCell ⟨wb, 3, none⟩ (.slice an ns.length cn)) lo (.slice an ns.length cn) ns := hm.keepOn fun k hk => Below.heap_setCell _ _ _ _ (hm.blkNe h.blk (by decide) k hk)
  have hot : Ol (w.setCell ⟨wb, 3, none⟩ (.slice an ns.length cn)) lo vp ps := h.pl.keepOn fun k hk => Below.heap_setCell _ _ _ _ (h.pl.blkNe h.blk (by decide) k hk)
  refine ⟨{ h with blk := h.blk.set 3 _ rfl, nl := hmy, pl := hot, ap := fun g e1 e2 => h.ap g (by cases an <;> exact e1) e2, k0 := hch _ h.k0, k1 := hch _ h.k1, k2 := hch _ h.k2 }, (Below.refl lo w).setCell h.lw _, fun b cs t hb hB => hB.setOther hb _⟩
theorem pop_path (h : Wb w lo wb nodes slots ao nf cp vn (.slice ap (ps.length + 1) cq) c0 c1 c2 (ns) (ps ++ [x])) :
    Wb (w.setCell ⟨wb, 4, none⟩ (.slice ap ps.length cq)) lo wb nodes slots ao nf cp vn (.slice ap ps.length cq) c0 c1 c2 ns ps ∧ Below lo w (w.setCell ⟨wb, 4, none⟩ (.slice ap ps.length cq)) ∧ (∀ b cs t, b ≠ wb → Blk w b cs t → Blk (w.setCell ⟨wb, 4, none⟩ (.slice ap ps.length cq)) b cs t) := by
  have hch : ∀ c, Chn w c → Chn (w.setCell ⟨wb, 4, none⟩ (.slice ap ps.length cq)) c := fun c hc => chn_set hc _ (Ne.symm (h.blk.chanNe hc)) _
  have hm := h.pl.pop
  have hmy : Ol (w.setCell ⟨wb, 4, none⟩ (.slice ap ps.length cq)) lo (.slice ap ps.length cq) ps := hm.keepOn fun k hk => Below.heap_setCell _ _ _ _ (hm.blkNe h.blk (by decide) k hk)
  have hot : Ol (w.setCell ⟨wb, 4, none⟩ (.slice ap ps.length cq)) lo vn ns := h.nl.keepOn fun k hk => Below.heap_setCell _ _ _ _ (h.nl.blkNe h.blk (by decide) k hk)
  refine ⟨{ h with blk := h.blk.set 4 _ rfl, pl := hmy, nl := hot, ap := fun g e1 e2 => h.ap g e1 (by cases ap <;> exact e2), k0 := hch _ h.k0, k1 := hch _ h.k1, k2 := hch _ h.k2 }, (Below.refl lo w).setCell h.lw _, fun b cs t hb hB => hB.setOther hb _⟩
end
end Go.Proofs.Ytfpklfpcencimaa
