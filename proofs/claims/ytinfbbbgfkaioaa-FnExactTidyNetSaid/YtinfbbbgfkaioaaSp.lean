/- The map of the slots in the specification: contract. -/
import Derived.Test.YtinfbbbgfkaioaaIe
import Derived.Test.YtinfbbbgfkaioaaLa
import Derived.Test.YtinfbbbgfkaioaaNe
import Derived.Test.YtinfbbbgfkaioaaImul
namespace Go.Proofs.Ytinfbbbgfkaioaa
open Go.RowKit
set_option linter.unusedVariables false
set_option linter.unusedSimpArgs false
/-- Rows of S noughts are laid one behind the other. -/
structure Gq (w0 w : World) (v : Value) (i S : Nat) (bs : Nat → Nat) : Prop where
  own : w.ownsRow w0.heap.size 72 1 v i ((List.range i).map fun r => .slice (some ⟨bs r, 0, none⟩) S S)
  nn : v ≠ .slice none 0 0
  rows : ∀ r, r < i → w0.heap.size ≤ bs r ∧ bs r < w.heap.size ∧ Seg w (bs r) 2 0 S (fun _ => .int .i64 0)
  apart : ∀ r r', r < i → r' < i → bs r = bs r' → r = r'
  below : Below w0.heap.size w0 w
theorem gq_start (w0 : World) (S : Nat) (bs : Nat → Nat) : Gq w0 (w0.alloc (.cells #[] 72)) (.slice (some ⟨w0.heap.size, 0, none⟩) 0 0) 0 S bs :=
  ⟨owns_empty w0 72, by simp, fun r hr => absurd hr (Nat.not_lt_zero _), fun r _ hr => absurd hr (Nat.not_lt_zero _), (Below.refl _ _).alloc (Nat.le_refl _) _⟩
theorem gq_step {w0 w w1 : World} {i S : Nat} {v v1 : Value} {bs : Nat → Nat} (h : Gq w0 w v i S bs)
    (hown : w1.ownsRow w0.heap.size 72 1 v1 (i + 1) ((List.range i).map (fun r => .slice (some ⟨bs r, 0, none⟩) S S) ++ [.slice (some ⟨w.heap.size, 0, none⟩) S S])) (hnn : v1 ≠ .slice none 0 0)
    (hgr : ((w.alloc (.cells (madeCells #[.int .i64 0] S) 2)).alloc (.cells #[.slice (some ⟨w.heap.size, 0, none⟩) S S] 72)).grownBy w1 v.ownBlock) :
    Gq w0 w1 v1 (i + 1) S (fun r => if r = i then w.heap.size else bs r) := by
  have z1 := h.below.size
  have hO : (w.alloc (.cells (madeCells #[.int .i64 0] S) 2)).ownsRow w0.heap.size 72 1 v i ((List.range i).map fun r => .slice (some ⟨bs r, 0, none⟩) S S) := h.own.alloc _
  have hB : Below w0.heap.size w w1 := push_below hO hgr ((Below.refl w0.heap.size w).alloc z1 _) (by simp; omega)
  have key : ∀ k, k < w.heap.size + 1 → (∀ c, w.heap[k]? ≠ some (.cells c 72 (0, 0))) → w1.heap[k]? = (w.alloc (.cells (madeCells #[.int .i64 0] S) 2)).heap[k]? := fun k hk hc => by
    refine (hgr.block k (by simp; omega) ?_).trans (Below.heap_alloc _ _ _ (by simp; omega))
    intro e
    obtain ⟨_, h1 | ⟨g, cap, cur, hv, hg, hh, _⟩⟩ := h.own
    · rw [h1.1] at e; cases e
    · rw [hv] at e
      simp [Value.ownBlock] at e
      subst e
      exact hc cur hh
  have hsz : w.heap.size + 1 < w1.heap.size := by have := hgr.size; simp at this; omega
  refine ⟨?_, hnn, fun r hr => ?_, fun r r' hr hr' e => ?_, h.below.trans hB⟩
  · rw [← range_push]
    have e : (List.range i).map (fun r => Value.slice (some ⟨if r = i then w.heap.size else bs r, 0, none⟩) S S) = (List.range i).map (fun r => .slice (some ⟨bs r, 0, none⟩) S S) := List.map_congr_left fun r hr => by
      have := List.mem_range.1 hr
      rw [if_neg (by omega)]
    rw [e]
    simpa using hown
  · by_cases e : r = i
    · subst e
      simp only [if_true]
      refine ⟨z1, by omega, (seg_made w (.int .i64 0) S 2).of_block (key _ (by omega) (fun c hc => by have := (Array.getElem?_eq_some_iff.1 hc).1; omega))⟩
    · rw [if_neg e]
      obtain ⟨a1, a2, a3⟩ := h.rows r (by omega)
      refine ⟨a1, by omega, a3.of_block ((key _ (by omega) ?_).trans (Below.heap_alloc _ _ _ a2))⟩
      intro c hc
      obtain ⟨c', hc', _⟩ := a3
      rw [hc] at hc'
      simp at hc'
  · by_cases a : r = i
    · by_cases b : r' = i
      · omega
      · rw [if_pos a, if_neg b] at e
        have := (h.rows r' (by omega)).2.1
        omega
    · by_cases b : r' = i
      · rw [if_neg a, if_pos b] at e
        have := (h.rows r (by omega)).2.1
        omega
      · rw [if_neg a, if_neg b] at e
        exact h.apart r r' (by omega) (by omega) e
theorem Gq.mat {w0 w : World} {v : Value} {n S : Nat} {bs : Nat → Nat} (h : Gq w0 w v n S bs) : ∃ l : Lie, v = .slice (some ⟨l.b, 0, none⟩) n l.cap ∧ (∀ i, i < n → l.os i = 0) ∧ Mat w0.heap.size w.heap.size w l n (fun _ => S) (fun _ _ => 0) := by
  obtain ⟨_, h1 | ⟨g, cap, cur, hv, hg, hh, h1, h2, h3, h4⟩⟩ := h.own
  · exact absurd h1.1 h.nn
  · refine ⟨⟨g, cap, bs, fun _ => 0, fun _ => S⟩, hv, fun _ _ => rfl, ⟨⟨cur, hh, fun i hi => ?_⟩, fun i hi => (h.rows i hi).2.2, hg, (Array.getElem?_eq_some_iff.1 hh).1, fun i hi => (h.rows i hi).1, fun i hi => (h.rows i hi).2.1, h.apart⟩⟩
    have : (cur.toList.take (n * 1))[i]? = ((List.range n).map fun r => Value.slice (some ⟨bs r, 0, none⟩) S S)[i]? := by rw [h4]
    rw [Nat.mul_one, List.getElem?_take_of_lt hi] at this
    show cur[0 + i]? = _
    rw [Nat.zero_add, ← Array.getElem?_toList, this]
    simp [hi, Lie.row]
theorem info33 : (Try.prog.info? 72).map (fun i => (i.zero, i.size, i.bytes)) = some (some (.slice none 0 0), 1, 24) := by kernel_rfl
theorem ent_next {B : Int → Int → Int} {x : Li} {t q c : Nat} (hq : Nt.slF x t = (q : Int)) (hc : Nt.slS x t = (c : Int)) (r s : Nat) : (if r = q ∧ s = c then x.id else Nt.ent B x t r s) = Nt.ent B x (t + 1) r s := by
  show _ = (if Nt.slF x t = (r : Int) ∧ Nt.slS x t = (s : Int) then x.id else Nt.ent B x t r s)
  rw [hq, hc]
  by_cases e : r = q ∧ s = c
  · rw [if_pos e, if_pos ⟨by omega, by omega⟩]
  · rw [if_neg e, if_neg (by omega)]
set_option maxRecDepth 20000 in
set_option maxHeartbeats 3200000 in
theorem sMap_any {w : World} {ao lo : Option Addr} {nf cp n cl : Nat} {nodes slots : Int} {F : Nat → Fb} {L : Nat → Li} (hl : RdL w (.slice lo n cl) n L) (hn40 : n ≤ 40) (G : Nt.Good nodes slots nf F) (hO : Nt.AllOk nodes slots nf F n L) :
    Calls Try.prog 80 #[.agg #[.int .i64 nodes, .int .i64 slots, .slice ao nf cp], .slice lo n cl] w fun e w' => ∃ l : Lie, e = .returned (.slice (some ⟨l.b, 0, none⟩) nf l.cap) ∧ (∀ i, i < nf → l.os i = 0) ∧ Mat w.heap.size w'.heap.size w' l nf (fun _ => slots.toNat) (fun f s => Nt.bk L n f s) ∧ Below w.heap.size w w' := by
  have g1 := G.s1
  have g2 := G.s64
  have g3 := G.f14
  obtain ⟨S, hS⟩ : ∃ S : Nat, slots = (S : Int) := ⟨slots.toNat, by omega⟩
  rw [show slots.toNat = S by omega, hS]
  have HO : Hid (Nt.AllOk nodes slots nf F n L) := hO
  have HSl : Hid (slots = (S : Int)) := hS
  have hS1 : 1 ≤ S := by omega
  have hS64 : S ≤ 64 := by omega
  have hfI : (nf : Int) ≤ 14 := by omega
  have hnI : (n : Int) ≤ 40 := by omega
  clear hO g1 g2 hS G
  obtain ⟨X, hX⟩ : ∃ X, X = (w.alloc (.cells #[.int .i64 nodes, .int .i64 S, .slice ao nf cp] 37)) := ⟨_, rfl⟩
  have BX : Hid (Blk X w.heap.size #[.int .i64 nodes, .int .i64 S, .slice ao nf cp] 37 ∧ Below w.heap.size w X) := by rw [hX]; exact ⟨Blk.new rfl, (Below.refl _ _).alloc (Nat.le_refl _) _⟩
  have CX : ∀ W, Below X.heap.size X W → W.cell? ⟨w.heap.size, 1, none⟩ = some (.int .i64 S) ∧ W.cell? ⟨w.heap.size, 2, none⟩ = some (.slice ao nf cp) := fun W h => ⟨(BX.out.1.old h).cell rfl, (BX.out.1.old h).cell rfl⟩
  have hXz : w.heap.size ≤ X.heap.size := Nat.le_of_lt BX.out.1.lt
  have HL : Hid (RdL w (.slice lo n cl) n L) := hl
  clear hl
  obtain ⟨Y, hY⟩ : ∃ Y, Y = X.alloc (.cells #[] 72) := ⟨_, rfl⟩
  have hXs : w.heap.size + 1 = X.heap.size := by rw [hX]; simp
  have HY : Hid (Gq X Y (.slice (some ⟨w.heap.size + 1, 0, none⟩) 0 0) 0 S (fun _ => 0)) := by rw [hY, hXs]; exact gq_start X S _
  clear hXs
  have hmk := run_make_row' (P := Try.prog) 72 2 (.int .i64 0) 8 Try.underlying72 info2 rfl .i64 .i64 S (by omega) (by omega)
  go_enter Try.func80, Try.ntmps80
  go_wp2_with fail
  rw [← hX, ← hY]
  clear hX hY
  go_loopw [5, 6] (fun v i wr => ∃ (k : Nat) (bs : Nat → Nat), k ≤ nf ∧ i = .int .i64 k ∧ Hid (Gq X wr v k S bs)) (fun _ i _ => nf - (intOf i).toNat)
  case atStart => exact ⟨0, _, Nat.zero_le _, rfl, HY.out⟩
  case round =>
    obtain ⟨k, bs, hk, rfl, HG⟩ := hrel
    obtain ⟨x1, x2⟩ := CX wr HG.out.below
    by_cases hkn : k < nf
    · have hxs := HG.out.below.size
      have hkb : k ≤ 1000000000 := by omega
      go_wp2_with (first | (at_builtin; refine pushV rfl (.tmp 19) (.tmp 23) 113 rfl 72 (.slice none 0 0) 1 24 Try.underlying113 info33 rfl (by decide) (by decide) (wr.alloc (.cells (madeCells #[.int .i64 0] S) 2)) [.slice (some ⟨wr.heap.size, 0, none⟩) S S] rfl (by simp [Value.oneCell']) X.heap.size _ k _ rfl (HG.out.own.alloc _) 1 (by simp [Act.eval]) hkb (by simp; omega) ?_; intro v1 w3 own3 grow3 nn3))
      have HN : Hid (Gq X w3 v1 (k + 1) S (fun r => if r = k then wr.heap.size else bs r)) := gq_step HG.out own3 nn3 grow3
      clear own3 nn3 grow3 x1 x2
      go_wp2
      go_roundw
      case rel => exact ⟨k + 1, _, by omega, by simp, HN⟩
      case measure => simp [intOf]; omega
    · obtain rfl : nf = k := by omega
      obtain ⟨l, hv, hos, hmat⟩ := HG.out.mat
      subst hv
      obtain ⟨hi0, hhi⟩ : ∃ h, h = wr.heap.size := ⟨_, rfl⟩
      have H0 : Hid (Mat X.heap.size hi0 wr l nf (fun _ => S) (fun r t => Nt.bk L 0 r t) ∧ Below X.heap.size X wr ∧ hi0 ≤ wr.heap.size ∧ ∀ i, i < nf → l.os i = 0) := by rw [hhi]; exact ⟨hmat, HG.out.below, Nat.le_refl _, hos⟩
      clear hmat hos hhi HG hmk HY
      go_wp2_with fail
      clear x1 x2
      go_loopw [7] (fun i wr => ∃ k : Nat, k ≤ n ∧ i = .int .i64 k ∧ Hid (Mat X.heap.size hi0 wr l nf (fun _ => S) (fun r t => Nt.bk L k r t)) ∧ Hid (Below X.heap.size X wr ∧ hi0 ≤ wr.heap.size)) (fun i _ => n - (intOf i).toNat)
      case atStart => exact ⟨0, Nat.zero_le _, rfl, H0.out.1, H0.out.2.1, H0.out.2.2.1⟩
      case round =>
        obtain ⟨k, hk, rfl, HM, HB⟩ := hrel
        obtain ⟨wo, hwo⟩ : ∃ wo, wo = wr := ⟨_, rfl⟩
        subst hwo
        by_cases hkn : k < n
        · obtain ⟨bl, ol, po, pc, rfl, hcl, hp⟩ := HL.out.at hkn
          obtain ⟨x, hx⟩ : ∃ x, x = L k := ⟨_, rfl⟩
          obtain ⟨m, hm⟩ : ∃ m, m = (L k).np := ⟨_, rfl⟩
          rw [← hm, ← hx] at hcl hp
          have c0 : wo.cell? ⟨bl, ol + k * 6, none⟩ = some (.int .i64 x.id) := kold (BX.out.2.trans (HB.out.1.mono hXz)) (hcl 0 (by omega))
          have c1 : wo.cell? ⟨bl, ol + k * 6 + 1, none⟩ = some (.int .i64 x.fr) := kold (BX.out.2.trans (HB.out.1.mono hXz)) (hcl 1 (by omega))
          have c2 : wo.cell? ⟨bl, ol + k * 6 + 2, none⟩ = some (.int .i64 x.tt) := kold (BX.out.2.trans (HB.out.1.mono hXz)) (hcl 2 (by omega))
          have c3 : wo.cell? ⟨bl, ol + k * 6 + 3, none⟩ = some (.slice po m pc) := kold (BX.out.2.trans (HB.out.1.mono hXz)) (hcl 3 (by omega))
          have c4 : wo.cell? ⟨bl, ol + k * 6 + 4, none⟩ = some (.int .i64 x.fi) := kold (BX.out.2.trans (HB.out.1.mono hXz)) (hcl 4 (by omega))
          have c5 : wo.cell? ⟨bl, ol + k * 6 + 5, none⟩ = some (.int .i64 x.wd) := kold (BX.out.2.trans (HB.out.1.mono hXz)) (hcl 5 (by omega))
          have hbl : bl < wo.heap.size := World.block_lt_of_cell? _ _ c0
          have hok := HO.out.ok k hkn
          have HX : Hid (x = L k ∧ m = (L k).np ∧ x.np = m) := ⟨hx, hm, by rw [hx, hm]⟩
          rw [← hx] at hok
          have HOK : Hid (Nt.LOk nodes slots nf F x) := hok
          have v1 : 1 ≤ x.wd := hok.w1
          have v2 : 0 ≤ x.fi := hok.f0
          have v3 : x.fi + x.wd ≤ S := by have := hok.top; rw [HSl.out] at this; exact this
          have hm8 : m ≤ 8 := by have := hok.few; rw [HX.out.2.2] at this; exact this
          have hmI : (m : Int) ≤ 8 := by omega
          obtain ⟨W, hW⟩ : ∃ W : Nat, x.wd = (W : Int) := ⟨x.wd.toNat, by omega⟩
          have HWd : Hid (x.wd = (W : Int) ∧ x.wd.toNat = W) := ⟨hW, by omega⟩
          rw [hW] at v1 v3 c5
          have hW64 : W ≤ 64 := by omega
          obtain ⟨V, hV⟩ : ∃ V, V = wo.alloc (.cells #[.int .i64 x.id, .int .i64 x.fr, .int .i64 x.tt, .slice po m pc, .int .i64 x.fi, .int .i64 W] 80) := ⟨_, rfl⟩
          have BV : Hid (Blk V wo.heap.size #[.int .i64 x.id, .int .i64 x.fr, .int .i64 x.tt, .slice po m pc, .int .i64 x.fi, .int .i64 W] 80 ∧ Mat X.heap.size hi0 V l nf (fun _ => S) (fun r t => Nt.bk L k r t) ∧ Below X.heap.size X V ∧ hi0 ≤ wo.heap.size ∧ ∀ U, Below X.heap.size X U → RdRow U (.slice po m pc) m x.p) := by
            rw [hV]
            have hbb : Below wo.heap.size wo (wo.alloc (.cells #[.int .i64 x.id, .int .i64 x.fr, .int .i64 x.tt, .slice po m pc, .int .i64 x.fi, .int .i64 W] 80)) := (Below.refl _ _).alloc (Nat.le_refl _) _
            exact ⟨Blk.new rfl, HM.out.keep (fun q _ h2 => hbb.block q (by have := HB.out.2; omega)), HB.out.1.trans (hbb.mono HB.out.1.size), HB.out.2, fun U hU => hp.later (BX.out.2.trans (hU.mono hXz))⟩
          clear hcl hp hx hm hok
          have hkI : (k : Int) < n := by omega
          clear hW
          go_wp2_with fail
          rw [← hV]
          clear hV c0 c1 c2 c3 c4 c5
          go_loopw [9] (fun i wr => ∃ a : Nat, a ≤ m ∧ i = .int .i64 a ∧ Hid (Mat X.heap.size hi0 wr l nf (fun _ => S) (fun r t => Nt.ent (Nt.bk L k) x (a * W) r t)) ∧ Hid (Below X.heap.size X wr ∧ Blk wr wo.heap.size #[.int .i64 x.id, .int .i64 x.fr, .int .i64 x.tt, .slice po m pc, .int .i64 x.fi, .int .i64 W] 80)) (fun i _ => m - (intOf i).toNat)
          case atStart => exact ⟨0, Nat.zero_le _, rfl, by rw [Nat.zero_mul]; exact BV.out.2.1, BV.out.2.2.1, BV.out.1⟩
          case round =>
            obtain ⟨a, ha, rfl, HA, HAB⟩ := hrel
            have x3 : wr.cell? ⟨wo.heap.size, 3, none⟩ = some (.slice po m pc) := HAB.out.2.cell rfl
            have x4 : wr.cell? ⟨wo.heap.size, 4, none⟩ = some (.int .i64 x.fi) := HAB.out.2.cell rfl
            by_cases ham : a < m
            · go_wp2_with fail
              clear x3 x4
              have hfib := HOK.out.fib (i := a) (by rw [HX.out.2.2]; exact ham)
              obtain ⟨q, hq⟩ : ∃ q : Nat, x.p a = (q : Int) := ⟨(x.p a).toNat, by omega⟩
              have hqf : q < nf := by omega
              have hqI : (q : Int) < nf := by omega
              have HPq : Hid (x.p a = (q : Int)) := hq
              have hamI : (a : Int) < m := by omega
              clear hfib hq
              go_loopw [10] (fun u wr => ∃ j : Nat, j ≤ W ∧ u = .int .i64 (x.fi + j) ∧ Hid (Mat X.heap.size hi0 wr l nf (fun _ => S) (fun r t => Nt.ent (Nt.bk L k) x (a * W + j) r t)) ∧ Hid (Below X.heap.size X wr ∧ Blk wr wo.heap.size #[.int .i64 x.id, .int .i64 x.fr, .int .i64 x.tt, .slice po m pc, .int .i64 x.fi, .int .i64 W] 80)) (fun u _ => W - (intOf u - x.fi).toNat)
              case atStart => exact ⟨0, Nat.zero_le _, by simp, HA, HAB⟩
              case round =>
                obtain ⟨j, hj, rfl, HC, HCB⟩ := hrel
                obtain ⟨s0, hs0⟩ : ∃ s0 : Nat, x.fi + (j : Int) = (s0 : Int) := ⟨(x.fi + j).toNat, by omega⟩
                have x4 : wr.cell? ⟨wo.heap.size, 4, none⟩ = some (.int .i64 x.fi) := HCB.out.2.cell rfl
                have x5 : wr.cell? ⟨wo.heap.size, 5, none⟩ = some (.int .i64 W) := HCB.out.2.cell rfl
                by_cases hjW : j < W
                · have hsS : s0 < S := by omega
                  have hlt : ((s0 : Nat) : Int) < x.fi + W := by omega
                  have hs1 : x.fi + (W : Int) ≤ 200 := by omega
                  have HSj : Hid (x.fi + (j : Int) = (s0 : Int)) := hs0
                  have hsn : ((s0 : Nat) : Int) + 1 = x.fi + ((j + 1 : Nat) : Int) := by omega
                  have HSn : Hid (((s0 : Nat) : Int) + 1 = x.fi + ((j + 1 : Nat) : Int)) := hsn
                  rw [hs0]
                  clear hs0 hsn
                  obtain ⟨pb, pf, hpo, hpc⟩ := (BV.out.2.2.2.2 wr HCB.out.1).at ham
                  subst hpo
                  rw [HPq.out] at hpc
                  have KX0 : ∀ x_ : Kept wr.heap.size wr, x_.w.cell? ⟨wo.heap.size, 0, none⟩ = some (.int .i64 x.id) := fun x_ => (HCB.out.2.old x_.h).cell rfl
                  have KX3 : ∀ x_ : Kept wr.heap.size wr, x_.w.cell? ⟨wo.heap.size, 3, none⟩ = some (.slice (some ⟨pb, pf, none⟩) m pc) := fun x_ => (HCB.out.2.old x_.h).cell rfl
                  have KP : ∀ x_ : Kept wr.heap.size wr, x_.w.cell? ⟨pb, pf + a, none⟩ = some (.int .i64 (q : Int)) := fun x_ => kold x_.h hpc
                  have KO : ∀ x_ : Kept wr.heap.size wr, x_.w.cell? ⟨l.b, q, none⟩ = some (.slice (some ⟨l.bs q, l.os q, none⟩) S (l.cs q)) := fun x_ => kold x_.h (HC.out.cellTop hqf)
                  have hsI : ((s0 : Nat) : Int) < S := by omega
                  clear hpc
                  go_upto_region 16 with fail
                  clear x4 x5
                  refine wp_region_last' wr.heap.size (by kernel_rfl) rfl rfl (by kernel_rfl) (lastOk_of (by kernel_rfl)) ?_
                  intro hne
                  dsimp only [List.dropLast]
                  repeat (go_big_quiet_step (fail))
                  refine wpQuiet_nil ?_
                  rintro u ⟨xk, hxk⟩
                  have hR1 := xk.h
                  rw [← hxk] at hR1
                  clear hxk xk hne KX0 KX3 KP KO
                  have hhi : hi0 ≤ wo.heap.size := BV.out.2.2.2.1
                  have HU : Hid (Mat X.heap.size hi0 u l nf (fun _ => S) (fun r t => Nt.ent (Nt.bk L k) x (a * W + j) r t) ∧ Below X.heap.size X u ∧ Blk u wo.heap.size #[.int .i64 x.id, .int .i64 x.fr, .int .i64 x.tt, .slice (some ⟨pb, pf, none⟩) m pc, .int .i64 x.fi, .int .i64 W] 80) := ⟨HC.out.keep (fun q _ h2 => hR1.block q (by have := HCB.out.2.lt; omega)), HCB.out.1.trans (hR1.mono HCB.out.1.size), HCB.out.2.old hR1⟩
                  clear hR1
                  have e1 : u.cell? ⟨l.bs q, l.os q + s0, none⟩ = some (.int .i64 (Nt.ent (Nt.bk L k) x (a * W + j) q s0)) := HU.out.1.cellAt hqf hsS
                  have e2 : ∀ z, u.frozen? ⟨l.bs q, z, none⟩ = false := fun z => (HU.out.1.row q hqf).frozen z
                  have hsl := sl_div x (a := a) (i := j) HWd.out.2 hjW
                  have HN : Hid (Mat X.heap.size hi0 (u.setCell ⟨l.bs q, l.os q + s0, none⟩ (.int .i64 x.id)) l nf (fun _ => S) (fun r t => Nt.ent (Nt.bk L k) x (a * W + (j + 1)) r t) ∧ Below X.heap.size X (u.setCell ⟨l.bs q, l.os q + s0, none⟩ (.int .i64 x.id)) ∧ Blk (u.setCell ⟨l.bs q, l.os q + s0, none⟩ (.int .i64 x.id)) wo.heap.size #[.int .i64 x.id, .int .i64 x.fr, .int .i64 x.tt, .slice (some ⟨pb, pf, none⟩) m pc, .int .i64 x.fi, .int .i64 W] 80) := by
                    have hb1 := HU.out.1.rlo q hqf
                    have hb2 := HU.out.1.rhi q hqf
                    refine ⟨(HU.out.1.set hqf hsS x.id).congr fun r t _ _ => ?_, HU.out.2.1.setCell hb1 _, HU.out.2.2.setOther (by show wo.heap.size ≠ l.bs q; omega) _⟩
                    rw [← Nat.add_assoc]
                    exact ent_next (by rw [hsl.1]; exact HPq.out) (by rw [hsl.2]; exact HSj.out) r t
                  clear hsl
                  go_wp2
                  go_roundw
                  case rel => exact ⟨j + 1, by omega, by rw [HSn.out], HN.out.1, HN.out.2⟩
                  case measure => simp [intOf]; have := HSn.out; have := HSj.out; omega
                · obtain rfl : j = W := by omega
                  have HN : Hid (Mat X.heap.size hi0 wr l nf (fun _ => S) (fun r t => Nt.ent (Nt.bk L k) x ((a + 1) * j) r t)) := by rw [Nat.add_mul, Nat.one_mul]; exact HC.out
                  go_wp2
                  go_roundw
                  case rel => exact ⟨a + 1, by omega, by simp, HN, HCB⟩
                  case measure => simp [intOf]; omega
            · obtain rfl : a = m := by omega
              have HN : Hid (Mat X.heap.size hi0 wr l nf (fun _ => S) (fun r t => Nt.bk L (k + 1) r t)) := by
                refine HA.out.congr fun r t _ _ => ?_
                have e1 := Nt.ent_all (B := Nt.bk L k) (x := x) HOK.out.w1 (r : Int) (t : Int)
                rw [HX.out.2.2, HWd.out.2] at e1
                rw [e1, HX.out.1]
                rfl
              have hz2 : hi0 ≤ wr.heap.size := by have := HAB.out.2.lt; have := BV.out.2.2.2.1; omega
              go_wp2
              go_roundw
              case rel => exact ⟨k + 1, by omega, by simp, HN, HAB.out.1, hz2⟩
              case measure => simp [intOf]; omega
        · obtain rfl : k = n := by omega
          go_wp2
          go_ret
          exact ⟨l, rfl, H0.out.2.2.2, (HM.out.wide hXz HB.out.2), BX.out.2.trans (HB.out.1.mono hXz)⟩
end Go.Proofs.Ytinfbbbgfkaioaa
