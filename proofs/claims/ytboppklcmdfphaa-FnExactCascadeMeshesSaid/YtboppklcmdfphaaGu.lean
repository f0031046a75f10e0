/- Guides: a matrix of residues with a row a guide: where it lies; how it is made, told, multiplied: contracts. -/
import Derived.Test.YtboppklcmdfphaaWi
import Derived.Test.YtboppklcmdfphaaPg
namespace Go.Proofs.Ytboppklcmdfphaa
open Go.RowKit
set_option linter.unusedVariables false
set_option linter.unusedSimpArgs false
/-- A matrix in blocks from lo on, below hi, a block a row and no two rows in one block. -/
structure Gm (lo hi : Nat) (w : World) (m : Lie) (n : Nat) (L : Nat → Nat) (F : Rm.Mx) : Prop where
  top : Seg w m.b 97 0 n (m.row L)
  row : ∀ i, i < n → Seg w (m.bs i) 92 (m.os i) (L i) (fun j => .int .i64 (F i j))
  blo : lo ≤ m.b
  bhi : m.b < hi
  rlo : ∀ i, i < n → lo ≤ m.bs i
  rhi : ∀ i, i < n → m.bs i < hi
  apart : ∀ i j, i < n → j < n → m.bs i = m.bs j → i = j
namespace Gm
variable {lo hi : Nat} {w w' : World} {m : Lie} {n : Nat} {L : Nat → Nat} {F G : Rm.Mx}
theorem keep (h : Gm lo hi w m n L F) (hk : ∀ k, lo ≤ k → k < hi → w'.heap[k]? = w.heap[k]?) : Gm lo hi w' m n L F :=
  ⟨h.top.of_block (hk _ h.blo h.bhi), fun i hi => (h.row i hi).of_block (hk _ (h.rlo i hi) (h.rhi i hi)), h.blo, h.bhi, h.rlo, h.rhi, h.apart⟩
theorem mono {hi' : Nat} (h : Gm lo hi w m n L F) (hh : hi ≤ hi') : Gm lo hi' w m n L F :=
  ⟨h.top, h.row, h.blo, Nat.lt_of_lt_of_le h.bhi hh, h.rlo, fun i hi => Nat.lt_of_lt_of_le (h.rhi i hi) hh, h.apart⟩
theorem congr (h : Gm lo hi w m n L F) (e : ∀ i j, i < n → j < L i → F i j = G i j) : Gm lo hi w m n L G :=
  ⟨h.top, fun i hi => (h.row i hi).congr fun j hj => by rw [e i j hi hj], h.blo, h.bhi, h.rlo, h.rhi, h.apart⟩
theorem bne (h : Gm lo hi w m n L F) {i : Nat} (hi : i < n) : m.b ≠ m.bs i := h.top.ne (h.row i hi) (by decide)
/-- A store into a row. -/
theorem set (h : Gm lo hi w m n L F) {i j : Nat} (hin : i < n) (hj : j < L i) (x : Int) :
    Gm lo hi (w.setCell ⟨m.bs i, m.os i + j, none⟩ (.int .i64 x)) m n L (fun r c => if r = i ∧ c = j then x else F r c) := by
  refine ⟨h.top.setOther (h.bne hin) _, fun r hr => ?_, h.blo, h.bhi, h.rlo, h.rhi, h.apart⟩
  by_cases e : r = i
  · subst e
    refine ((h.row r hr).set j hj _).congr fun c _ => ?_
    by_cases e' : c = j
    · simp [e']
    · simp [e']
  · refine ((h.row r hr).setOther (fun k => e (h.apart r i hr hin k)) _).congr fun c _ => ?_
    simp [e]
theorem cellTop (h : Gm lo hi w m n L F) {i : Nat} (hi : i < n) : w.cell? ⟨m.b, i, none⟩ = some (m.row L i) := by simpa using h.top.cell hi
theorem alloc (h : Gm lo hi w m n L F) (o : Obj) (hh : hi ≤ w.heap.size) : Gm lo hi (w.alloc o) m n L F := h.keep fun k _ hk => Below.heap_alloc _ _ _ (by omega)
end Gm
theorem Gm.anew {lo hi : Nat} {w w1 : World} {m : Lie} {n : Nat} {L : Nat → Nat} {F : Rm.Mx} (h : Gm lo hi w m n L F) {k : Nat} (hk : k < n) {G : Nat → Int} (hw : Within (m.bs k) (m.bs k + 1) w w1)
    (hs : Seg w1 (m.bs k) 92 (m.os k) (L k) (fun j => .int .i64 (G j))) : Gm lo hi w1 m n L (fun i j => if i = k then G j else F i j) := by
  have key : ∀ b, b ≠ m.bs k → b < w.heap.size → w1.heap[b]? = w.heap[b]? := fun b h1 h2 => by
    by_cases e : b < m.bs k
    · exact hw.below.block b e
    · exact hw.above b (by omega) h2
  refine ⟨h.top.of_block (key _ (h.bne hk) h.top.lt), fun r hr => ?_, h.blo, h.bhi, h.rlo, h.rhi, h.apart⟩
  by_cases e : r = k
  · subst e
    exact hs.congr fun j _ => by simp
  · refine ((h.row r hr).of_block (key _ (fun c => e (h.apart r k hr hk c)) (h.row r hr).lt)).congr fun j _ => by simp [e]
theorem Gm.cellAt {lo hi : Nat} {w : World} {m : Lie} {n : Nat} {L : Nat → Nat} {F : Rm.Mx} (h : Gm lo hi w m n L F) {i j : Nat} (hi : i < n) (hj : j < L i) : w.cell? ⟨m.bs i, m.os i + j, none⟩ = some (.int .i64 (F i j)) := (h.row i hi).cell hj
theorem Gm.cellRow {lo hi : Nat} {w : World} {m : Lie} {n : Nat} {L : Nat → Nat} {F : Rm.Mx} (h : Gm lo hi w m n L F) {i : Nat} (hi : i < n) : w.cell? ⟨m.b, i, none⟩ = some (.slice (some ⟨m.bs i, m.os i, none⟩) (L i) (m.cs i)) := h.cellTop hi
theorem info97 : (Try.prog.info? 97).map (fun i => (i.zero, i.size, i.bytes)) = some (some (.slice none 0 0), 1, 24) := by kernel_rfl
set_option maxHeartbeats 1000000 in
theorem residues_any {w : World} {vf : Value} {n : Nat} {f : Nat → Int} (hf : RdRow w vf n f)  (hp : 0 < n) (hn : n ≤ 1000000) :
    Calls Try.prog 103 #[vf] w fun e w' => e = .returned (.slice (some ⟨w.heap.size, 0, none⟩) n n) ∧ Seg w' w.heap.size 92 0 n (fun i => .int .i64 (Rm.md (f i))) ∧ Below w.heap.size w w' ∧ w'.heap.size = w.heap.size + 1 := by
  obtain ⟨bf, of, capf, rfl, cf⟩ := hf.get hp
  have hmk := run_make_row' (P := Try.prog) 97 92 (.int .i64 0) 8 Try.underlying97 info56 rfl .i64 .i64 n (by omega) (by omega)
  go_enter Try.func103, Try.ntmps103
  go_wp2_with fail
  clear hmk
  go_loopw [10] (fun i wr => ∃ k : Nat, k ≤ n ∧ i = .int .i64 k ∧ Seg wr w.heap.size 92 0 n (fun j => if j < k then .int .i64 (Rm.md (f j)) else .int .i64 0) ∧ Below w.heap.size w wr ∧ wr.heap.size = w.heap.size + 1) (fun i _ => n - (intOf i).toNat)
  case atStart => exact ⟨0, Nat.zero_le _, rfl, (seg_made w _ n 92).congr (fun j _ => by simp), (Below.refl _ _).alloc (Nat.le_refl _) _, by simp⟩
  case round =>
    obtain ⟨k, hk, rfl, hs, hb, hz⟩ := hrel
    by_cases hkn : k < n
    · have gf : wr.cell? ⟨bf, of + k, none⟩ = some (.int .i64 (f k)) := (hb.cell (World.block_lt_of_cell? _ _ (cf k hkn))).trans (cf k hkn)
      have g2 : wr.cell? ⟨w.heap.size, k, none⟩ = some (.int .i64 0) := by simpa using hs.cell hkn
      have g3 : wr.frozen? ⟨w.heap.size, k, none⟩ = false := hs.frozen k
      have HS : Hid (Seg wr w.heap.size 92 0 n (fun j => if j < k then .int .i64 (Rm.md (f j)) else .int .i64 0) ∧ Below w.heap.size w wr ∧ wr.heap.size = w.heap.size + 1) := ⟨hs, hb, hz⟩
      clear hs hb hz cf hf
      go_wp2_with fail
      refine (residue_any _ _).mono ?_
      rintro e w1 ⟨rfl, rfl⟩
      go_wp2
      go_roundw
      case rel =>
        obtain ⟨hs, hb, hz⟩ := HS.out
        refine ⟨k + 1, by omega, by simp, ?_, (hb.setCell (by show w.heap.size ≤ w.heap.size; omega) _), by simpa using hz⟩
        have := hs.set k hkn (.int .i64 (Rm.md (f k)))
        rw [Nat.zero_add] at this
        refine this.congr fun j hj => ?_
        by_cases e : j = k
        · subst e; simp
        · by_cases e2 : j < k
          · simp [e, e2, Nat.lt_succ_of_lt e2]
          · simp [e, e2]; intro h; omega
      case measure => simp [intOf]; omega
    · obtain rfl : k = n := by omega
      clear cf hf
      go_wp2
      go_ret
      exact ⟨rfl, hs.congr fun j hj => by simp [hj], hb, hz⟩
set_option maxHeartbeats 1000000 in
theorem tell_any {w : World} {vf : Value} {n : Nat} {f : Nat → Int} (hf : RdRow w vf n f)  (hp : 0 < n) (hn : n ≤ 1000000) :
    Calls Try.prog 107 #[vf] w fun e w' => e = .returned (.slice (some ⟨w.heap.size, 0, none⟩) n n) ∧ Seg w' w.heap.size 2 0 n (fun i => .int .i64 (f i)) ∧ Below w.heap.size w w' ∧ w'.heap.size = w.heap.size + 1 := by
  obtain ⟨bf, of, capf, rfl, cf⟩ := hf.get hp
  have hmk := run_make_row' (P := Try.prog) 32 2 (.int .i64 0) 8 Try.underlying32 info2 rfl .i64 .i64 n (by omega) (by omega)
  go_enter Try.func107, Try.ntmps107
  go_wp2_with fail
  clear hmk
  go_loopw [10] (fun i wr => ∃ k : Nat, k ≤ n ∧ i = .int .i64 k ∧ Seg wr w.heap.size 2 0 n (fun j => if j < k then .int .i64 (f j) else .int .i64 0) ∧ Below w.heap.size w wr ∧ wr.heap.size = w.heap.size + 1) (fun i _ => n - (intOf i).toNat)
  case atStart => exact ⟨0, Nat.zero_le _, rfl, (seg_made w _ n 2).congr (fun j _ => by simp), (Below.refl _ _).alloc (Nat.le_refl _) _, by simp⟩
  case round =>
    obtain ⟨k, hk, rfl, hs, hb, hz⟩ := hrel
    by_cases hkn : k < n
    · have gf : wr.cell? ⟨bf, of + k, none⟩ = some (.int .i64 (f k)) := (hb.cell (World.block_lt_of_cell? _ _ (cf k hkn))).trans (cf k hkn)
      have g2 : wr.cell? ⟨w.heap.size, k, none⟩ = some (.int .i64 0) := by simpa using hs.cell hkn
      have g3 : wr.frozen? ⟨w.heap.size, k, none⟩ = false := hs.frozen k
      have HS : Hid (Seg wr w.heap.size 2 0 n (fun j => if j < k then .int .i64 (f j) else .int .i64 0) ∧ Below w.heap.size w wr ∧ wr.heap.size = w.heap.size + 1) := ⟨hs, hb, hz⟩
      clear hs hb hz cf hf
      go_wp2
      go_roundw
      case rel =>
        obtain ⟨hs, hb, hz⟩ := HS.out
        refine ⟨k + 1, by omega, by simp, ?_, (hb.setCell (by show w.heap.size ≤ w.heap.size; omega) _), by simpa using hz⟩
        have := hs.set k hkn (.int .i64 (f k))
        rw [Nat.zero_add] at this
        refine this.congr fun j hj => ?_
        by_cases e : j = k
        · subst e; simp
        · by_cases e2 : j < k
          · simp [e, e2, Nat.lt_succ_of_lt e2]
          · simp [e, e2]; intro h; omega
      case measure => simp [intOf]; omega
    · obtain rfl : k = n := by omega
      clear cf hf
      go_wp2
      go_ret
      exact ⟨rfl, hs.congr fun j hj => by simp [hj], hb, hz⟩
/-- A new matrix, k of its n rows laid. -/
structure Layg (B : Nat) (w : World) (n k : Nat) (L : Nat → Nat) (F : Rm.Mx) : Prop where
  top : Seg w B 97 0 n (fun i => if i < k then (newLie B n L).row L i else .slice none 0 0)
  row : ∀ i, i < k → Seg w (B + 1 + i) 92 0 (L i) (fun j => .int .i64 (F i j))
  size : w.heap.size = B + 1 + k
theorem layg_start (w : World) (n : Nat) (L : Nat → Nat) (F : Rm.Mx) : Layg w.heap.size (w.alloc (.cells (madeCells #[.slice none 0 0] n) 97)) n 0 L F :=
  ⟨(seg_made w _ n 97).congr (fun j _ => by simp), fun i hi => absurd hi (Nat.not_lt_zero _), by simp⟩
theorem Layg.step {B : Nat} {w w' : World} {n k : Nat} {L : Nat → Nat} {F : Rm.Mx} (h : Layg B w n k L F) (hk : k < n) (hb : Below w.heap.size w w') (hs : w'.heap.size = w.heap.size + 1)
    (hr : Seg w' w.heap.size 92 0 (L k) (fun j => .int .i64 (F k j))) :
    Layg B (w'.setCell ⟨B, k, none⟩ (.slice (some ⟨B + 1 + k, 0, none⟩) (L k) (L k))) n (k + 1) L F := by
  have hz := h.size
  have ht : Seg w' B 97 0 n (fun i => if i < k then (newLie B n L).row L i else .slice none 0 0) := h.top.of_block (hb.block _ (by omega))
  refine ⟨?_, fun i hi => ?_, by simp only [World.size_setCell]; omega⟩
  · have := ht.set k hk (.slice (some ⟨B + 1 + k, 0, none⟩) (L k) (L k))
    rw [Nat.zero_add] at this
    refine this.congr fun j _ => ?_
    by_cases e : j = k
    · subst e; simp [newLie_row]
    · by_cases e2 : j < k
      · simp [e, e2, Nat.lt_succ_of_lt e2]
      · simp [e, e2]; intro h; omega
  · refine Seg.setOther ?_ (by show B + 1 + i ≠ B; omega) _
    by_cases e : i = k
    · subst e; rw [hz] at hr; exact hr
    · exact (h.row i (by omega)).of_block (hb.block _ (by omega))
theorem Layg.mat {B : Nat} {w : World} {n : Nat} {L : Nat → Nat} {F : Rm.Mx} (h : Layg B w n n L F) : Gm B w.heap.size w (newLie B n L) n L F :=
  ⟨h.top.congr fun i hi => by simp [hi], h.row, Nat.le_refl _, by have := h.size; simp only [newLie]; omega, fun i _ => by simp only [newLie]; omega, fun i hi => by have := h.size; simp only [newLie]; omega, fun i j _ _ e => by simp only [newLie] at e; omega⟩
set_option maxHeartbeats 800000 in
theorem guides_any (b off n cap : Nat) (vs : Nat → Value) (L : Nat → Nat) (F : Rm.Mx) (w : World) (hn : n ≤ 1000000) (hL : ∀ i, i < n → 0 < L i ∧ L i ≤ 1000000)
    (hc : ∀ i, i < n → w.cell? ⟨b, off + i, none⟩ = some (vs i) ∧ RdRow w (vs i) (L i) (F i)) :
    Calls Try.prog 81 #[.slice (some ⟨b, off, none⟩) n cap] w fun e w' => e = .returned ((newLie w.heap.size n L).val n) ∧
      Gm w.heap.size w'.heap.size w' (newLie w.heap.size n L) n L (fun i j => Rm.md (F i j)) ∧ Below w.heap.size w w' := by
  have hmk := run_make_row' (P := Try.prog) 89 97 (.slice none 0 0) 24 Try.underlying89 info97 rfl .i64 .i64 n (by omega) (by omega)
  go_enter Try.func81, Try.ntmps81
  go_wp2_with fail
  clear hmk
  go_loopw [10] (fun i wr => ∃ k : Nat, k ≤ n ∧ i = .int .i64 k ∧ Layg w.heap.size wr n k L (fun i j => Rm.md (F i j)) ∧ Below w.heap.size w wr) (fun i _ => n - (intOf i).toNat)
  case atStart => exact ⟨0, Nat.zero_le _, rfl, layg_start w n L (fun i j => Rm.md (F i j)), (Below.refl _ _).alloc (Nat.le_refl _) _⟩
  case round =>
    obtain ⟨k, hk, rfl, hs, hb⟩ := hrel
    by_cases hkn : k < n
    · have g1 : wr.cell? ⟨b, off + k, none⟩ = some (vs k) := (hb.cell (World.block_lt_of_cell? _ _ (hc k hkn).1)).trans (hc k hkn).1
      have gr : RdRow wr (vs k) (L k) (F k) := (hc k hkn).2.later hb
      have hLk := hL k hkn
      have HS : Hid (Layg w.heap.size wr n k L (fun i j => Rm.md (F i j)) ∧ Below w.heap.size w wr) := ⟨hs, hb⟩
      clear hs hb hc hL
      go_wp2_with fail
      refine (residues_any gr hLk.1 hLk.2).mono ?_
      rintro e w1 ⟨rfl, hr, hb1, hz1⟩
      have hT := HS.out.1.top
      have hz0 := HS.out.1.size
      have hT1 : Seg w1 w.heap.size 97 0 n (fun i => if i < k then (newLie w.heap.size n L).row L i else .slice none 0 0) := hT.of_block (hb1.block _ (by omega))
      have g2 : w1.cell? ⟨w.heap.size, k, none⟩ = some (.slice none 0 0) := by simpa using hT1.cell hkn
      have g3 : w1.frozen? ⟨w.heap.size, k, none⟩ = false := hT1.frozen k
      have HR : Hid (Layg w.heap.size (w1.setCell ⟨w.heap.size, k, none⟩ (.slice (some ⟨w.heap.size + 1 + k, 0, none⟩) (L k) (L k))) n (k + 1) L (fun i j => Rm.md (F i j)) ∧ Below w.heap.size w (w1.setCell ⟨w.heap.size, k, none⟩ (.slice (some ⟨w.heap.size + 1 + k, 0, none⟩) (L k) (L k)))) :=
        ⟨HS.out.1.step hkn hb1 hz1 hr, (HS.out.2.trans (hb1.mono (by omega))).setCell (Nat.le_refl _) _⟩
      rw [hz0]
      clear hT hT1 hr hb1 hz1 hz0 HS gr g1 hLk
      go_wp2
      go_roundw
      case rel => exact ⟨k + 1, by omega, by simp, HR.out.1, HR.out.2⟩
      case measure => simp [intOf]; omega
    · obtain rfl : k = n := by omega
      clear hc hL
      go_wp2
      go_ret
      exact ⟨rfl, hs.mat, hb⟩
end Go.Proofs.Ytboppklcmdfphaa
