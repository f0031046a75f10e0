/- The program's rows of slots: what is read of them, what owns them, and how they are made out of a map of slots. -/
import Derived.Test.YtinfbbbgfkaioaaSx
import Derived.Test.YtinfbbbgfkaioaaAp
import Derived.BigQuiet
namespace Go.Proofs.Ytinfbbbgfkaioaa
open Go.RowKit
set_option linter.unusedVariables false
set_option linter.unusedSimpArgs false
theorem info111 : (Try.prog.info? 111).map (fun i => (i.zero, i.size, i.bytes)) = some (some (.slice none 0 0), 1, 24) := by kernel_rfl
/-- n rows of S slots: block g holds the rows, block bs r the slots of row r. -/
structure Tb (lo hi : Nat) (w : World) (g : Nat) (bs : Nat → Nat) (n S : Nat) (F : Rm.Mx) : Prop where
  top : Seg w g 111 0 n (fun i => .slice (some ⟨bs i, 0, none⟩) S S)
  row : ∀ i, i < n → Seg w (bs i) 2 0 S (fun j => .int .i64 (F i j))
  blo : lo ≤ g
  bhi : g < hi
  rlo : ∀ i, i < n → lo ≤ bs i
  rhi : ∀ i, i < n → bs i < hi
  apart : ∀ i j, i < n → j < n → bs i = bs j → i = j
namespace Tb
variable {lo hi : Nat} {w w' : World} {g : Nat} {bs : Nat → Nat} {n S : Nat} {F G : Rm.Mx}
theorem keep (h : Tb lo hi w g bs n S F) (hk : ∀ k, lo ≤ k → k < hi → w'.heap[k]? = w.heap[k]?) : Tb lo hi w' g bs n S F :=
  ⟨h.top.of_block (hk _ h.blo h.bhi), fun i hi => (h.row i hi).of_block (hk _ (h.rlo i hi) (h.rhi i hi)), h.blo, h.bhi, h.rlo, h.rhi, h.apart⟩
theorem later (h : Tb lo hi w g bs n S F) (hb : Below w.heap.size w w') : Tb lo hi w' g bs n S F :=
  ⟨h.top.of_block (hb.block _ h.top.lt), fun i hi => (h.row i hi).of_block (hb.block _ (h.row i hi).lt), h.blo, h.bhi, h.rlo, h.rhi, h.apart⟩
theorem congr (h : Tb lo hi w g bs n S F) (e : ∀ i j, i < n → j < S → F i j = G i j) : Tb lo hi w g bs n S G :=
  ⟨h.top, fun i hi => (h.row i hi).congr fun j hj => by rw [e i j hi hj], h.blo, h.bhi, h.rlo, h.rhi, h.apart⟩
theorem cellTop (h : Tb lo hi w g bs n S F) {i : Nat} (hi : i < n) : w.cell? ⟨g, i, none⟩ = some (.slice (some ⟨bs i, 0, none⟩) S S) := by
  have := h.top.cell hi
  rwa [Nat.zero_add] at this
theorem cellAt (h : Tb lo hi w g bs n S F) {i j : Nat} (hi : i < n) (hj : j < S) : w.cell? ⟨bs i, j, none⟩ = some (.int .i64 (F i j)) := by
  have := (h.row i hi).cell hj
  rwa [Nat.zero_add] at this
end Tb
/-- What slotRowsOf answers beside its code c: no row, or n rows of S slots. -/
def Tab (lo hi : Nat) (w : World) (c : Int) (v : Value) (n S : Nat) (F : Rm.Mx) : Prop := ((c ≠ 0 ∨ n = 0) ∧ v = .slice none 0 0) ∨ ((c = 0 ∧ 0 < n) ∧ ∃ g cap bs, v = .slice (some ⟨g, 0, none⟩) n cap ∧ Tb lo hi w g bs n S F)
theorem owns_tb {w : World} {base : Nat} {v : Value} {n S : Nat} {bs : Nat → Nat} (h : w.ownsRow base 111 1 v n ((List.range n).map fun r => .slice (some ⟨bs r, 0, none⟩) S S)) (h0 : 0 < n) :
    ∃ g cap, v = .slice (some ⟨g, 0, none⟩) n cap ∧ base ≤ g ∧ Seg w g 111 0 n (fun i => .slice (some ⟨bs i, 0, none⟩) S S) := by
  obtain ⟨_, h1 | ⟨g, cap, cur, hv, hg, hh, h1, h2, h3, h4⟩⟩ := h
  · exact absurd h1.2 (by omega)
  · refine ⟨g, cap, hv, hg, cur, hh, fun i hi => ?_⟩
    have : (cur.toList.take (n * 1))[i]? = ((List.range n).map fun r => Value.slice (some ⟨bs r, 0, none⟩) S S)[i]? := by rw [h4]
    rw [Nat.mul_one, List.getElem?_take_of_lt hi] at this
    show cur[0 + i]? = _
    rw [Nat.zero_add, ← Array.getElem?_toList, this]
    simp [hi]
set_option maxRecDepth 20000 in
set_option maxHeartbeats 3200000 in
theorem rowsOf_any {w : World} {ao lo : Option Addr} {nf cp n cl : Nat} {nodes slots : Int} {F : Nat → Fb} {L : Nat → Li} (h : Rf w (.slice ao nf cp) nf F) (hl : RdL w (.slice lo n cl) n L) (hf : nf ≤ 1048576) (hw : LFew n L) (hcp : nf ≤ cp) (hd : LBd n L) :
    Calls Try.prog 71 #[.agg #[.int .i64 nodes, .int .i64 slots, .slice ao nf cp], .slice lo n cl] w fun e w' => ∃ v, e = .returned (.tuple #[v, .int .i64 (Nt.lfault nodes slots nf F n L)]) ∧ Tab w.heap.size w'.heap.size w' (Nt.lfault nodes slots nf F n L) v nf slots.toNat (fun f s => Nt.bk L n f s) ∧ Below w.heap.size w w' := by
  obtain ⟨X, hX⟩ : ∃ X, X = w.alloc (.cells #[.int .i64 nodes, .int .i64 slots, .slice ao nf cp] 37) := ⟨_, rfl⟩
  have BX : Hid (Blk X w.heap.size #[.int .i64 nodes, .int .i64 slots, .slice ao nf cp] 37 ∧ Below w.heap.size w X) := by rw [hX]; exact ⟨Blk.new rfl, (Below.refl _ _).alloc (Nat.le_refl _) _⟩
  have hXz : w.heap.size ≤ X.heap.size := Nat.le_of_lt BX.out.1.lt
  have H : Hid (Rf X (.slice ao nf cp) nf F ∧ RdL X (.slice lo n cl) n L ∧ LFew n L ∧ LBd n L) := ⟨h.later BX.out.2, hl.later BX.out.2, hw, hd⟩
  clear h hl hw hd
  obtain ⟨S, hS⟩ : ∃ S, S = slots.toNat := ⟨_, rfl⟩
  have HS : Hid (S = slots.toNat) := hS
  rw [← hS]
  clear hS
  have hcall := iSm_any (nodes := nodes) (slots := slots) H.out.1 H.out.2.1 hf H.out.2.2.1 hcp H.out.2.2.2
  rw [← HS.out] at hcall
  obtain ⟨c, hc⟩ : ∃ c, c = Nt.lfault nodes slots nf F n L := ⟨_, rfl⟩
  have HC : Hid (c = Nt.lfault nodes slots nf F n L) := hc
  rw [← hc] at hcall ⊢
  have HK : Hid (nf ≤ 1048576) := hf
  clear hc hf
  have x0 := BX.out.1.cell (j := 0) rfl
  have x1 := BX.out.1.cell (j := 1) rfl
  have x2 := BX.out.1.cell (j := 2) rfl
  go_enter Try.func71, Try.ntmps71
  go_wp2_with fail
  rw [← hX]
  clear hX
  go_wp2_with fail
  refine hcall.mono ?_
  rintro e w1 ⟨v, rfl, hown, hb1⟩
  clear x0 x1 x2 hcall
  have HO : Hid (OwnK X.heap.size w1.heap.size w1 c v nf S (fun f s => Nt.bk L n f s) ∧ Below X.heap.size X w1) := ⟨hown, hb1⟩
  clear hown hb1
  obtain ⟨Y, hY⟩ : ∃ Y, Y = w1.alloc (.cells #[.int .i64 c, v] 132) := ⟨_, rfl⟩
  have BY : Hid (Blk Y w1.heap.size #[.int .i64 c, v] 132 ∧ Below w1.heap.size w1 Y) := by rw [hY]; exact ⟨Blk.new rfl, (Below.refl _ _).alloc (Nat.le_refl _) _⟩
  have hYz : w1.heap.size < Y.heap.size := BY.out.1.lt
  have hwz : w.heap.size ≤ w1.heap.size := by have := HO.out.2.size; omega
  have D : Hid (Below w.heap.size w Y) := BX.out.2.trans (HO.out.2.mono hXz |>.trans (BY.out.2.mono hwz))
  have hOw := HO.out.1
  rcases hOw with ⟨hz, av, cv, rfl⟩ | ⟨hz, l, rfl, hlie, hmat⟩
  · have HZ : Hid (c ≠ 0 ∨ nf = 0) := hz
    have y0 := BY.out.1.cell (j := 0) (v := .int .i64 c) rfl
    have y1 := BY.out.1.cell (j := 1) (v := .slice av 0 cv) rfl
    clear hz
    go_wp2_with fail
    rw [← hY]
    clear hY
    go_loopw [7, 16] (fun v i wr => v = .slice none 0 0 ∧ i = .int .i64 0 ∧ wr = Y) (fun _ _ _ => 0)
    case atStart => exact ⟨rfl, rfl, rfl⟩
    case round =>
      obtain ⟨rfl, rfl, rfl⟩ := hrel
      go_wp2_with fail
      go_quiet (fail)
      go_wp2
      refine bodyPost_ret (v := .tuple #[.slice none 0 0, .int .i64 c]) (by simp [results, Try.results71, go_sem]) rfl ⟨_, rfl, Or.inl ⟨HZ.out, rfl⟩, below_drewN D.out _⟩
  · have HZ : Hid ((c = 0 ∧ 0 < nf) ∧ (∀ i, i < nf → l.os i = 0 ∧ l.cs i = S) ∧ Mat X.heap.size w1.heap.size w1 l nf (fun _ => S) (fun f s => Nt.bk L n f s)) := ⟨hz, hlie, hmat⟩
    have y0 := BY.out.1.cell (j := 0) rfl
    have y1 := BY.out.1.cell (j := 1) rfl
    clear hz hlie hmat
    go_wp2_with fail
    rw [← hY]
    clear hY
    have hnI : (nf : Int) ≤ 1048576 := by have := HK.out; omega
    clear y0 y1
    go_loopw [7, 16] (fun v i wr => ∃ k : Nat, k ≤ nf ∧ i = .int .i64 k ∧ Hid (wr.ownsRow Y.heap.size 111 1 v k ((List.range k).map fun r => .slice (some ⟨l.bs r, 0, none⟩) S S) ∧ Below Y.heap.size Y wr)) (fun _ i _ => nf - (intOf i).toNat)
    case atStart => exact ⟨0, Nat.zero_le _, rfl, ⟨by simp, Or.inl ⟨rfl, rfl⟩⟩, Below.refl _ _⟩
    case round =>
      obtain ⟨k, hk, rfl, HG⟩ := hrel
      by_cases hkn : k < nf
      · have hkI : (k : Int) < nf := by omega
        have hkb : k ≤ 2000000 := by omega
        have hyz := HG.out.2.size
        have d0 : wr.cell? ⟨l.b, k, none⟩ = some (.slice (some ⟨l.bs k, 0, none⟩) S S) := by
          have a := HZ.out.2.2.cellTop hkn
          simp only [Lie.row] at a
          rw [(HZ.out.2.1 k hkn).1, (HZ.out.2.1 k hkn).2] at a
          exact (HG.out.2.cell (Nat.lt_trans HZ.out.2.2.bhi hYz)).trans ((BY.out.2.cell HZ.out.2.2.bhi).trans a)
        go_wp2_with (first | (at_builtin; refine push_law rfl (.tmp 20) (.tmp 22) 101 rfl 111 (.slice none 0 0) 24 Try.underlying101 info111 rfl (by decide) wr (.slice (some ⟨l.bs k, 0, none⟩) S S) rfl Y.heap.size _ k _ rfl HG.out.1 1 (by simp [Act.eval]) hkb hyz ?_; intro v1 w3 own3 grow3))
        have HN : Hid (w3.ownsRow Y.heap.size 111 1 v1 (k + 1) ((List.range (k + 1)).map fun r => .slice (some ⟨l.bs r, 0, none⟩) S S) ∧ Below Y.heap.size Y w3) := ⟨by rw [← range_push]; exact own3, push_below HG.out.1 grow3 HG.out.2 hyz⟩
        clear own3 grow3 d0
        go_wp2
        go_roundw
        case rel => exact ⟨k + 1, by omega, by simp, HN⟩
        case measure => simp [intOf]; omega
      · obtain rfl : nf = k := by omega
        have D2 : Hid (Below w.heap.size w wr) := D.out.trans (HG.out.2.mono (by omega))
        have y0 : wr.cell? ⟨w1.heap.size, 0, none⟩ = some (.int .i64 c) := (BY.out.1.old HG.out.2).cell rfl
        go_wp2_with fail
        go_quiet (fail)
        go_wp2
        obtain ⟨g, cap, hv, hg, hseg⟩ := owns_tb HG.out.1 HZ.out.1.2
        subst hv
        refine bodyPost_ret (v := .tuple #[.slice (some ⟨g, 0, none⟩) nf cap, .int .i64 c]) (by simp [results, Try.results71, go_sem]) rfl ⟨_, rfl, Or.inr ⟨HZ.out.1, g, cap, l.bs, rfl, ?_⟩, below_drewN D2.out _⟩
        rw [World.heap_drewN]
        refine Tb.keep (w := wr) ?_ (fun _ _ _ => rfl)
        have hm : ∀ k, X.heap.size ≤ k → k < w1.heap.size → wr.heap[k]? = w1.heap[k]? := fun k _ h2 => (HG.out.2.block k (by omega)).trans (BY.out.2.block k h2)
        have hM := HZ.out.2.2.keep hm
        have hyz := HG.out.2.size
        refine ⟨hseg, fun i hi => ?_, by omega, hseg.lt, fun i hi => ?_, fun i hi => ?_, hM.apart⟩
        · have a := hM.row i hi
          rw [(HZ.out.2.1 i hi).1] at a
          exact a
        · have := hM.rlo i hi; omega
        · have := hM.rhi i hi; omega
end Go.Proofs.Ytinfbbbgfkaioaa
