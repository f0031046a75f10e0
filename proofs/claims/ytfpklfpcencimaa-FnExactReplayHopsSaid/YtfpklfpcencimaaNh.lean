/- Nets: what is owned; the laws' own copies, counts, comparisons and marks of nets. -/
import Derived.Test.YtfpklfpcencimaaFc
namespace Go.Proofs.Ytfpklfpcencimaa
open Go.RowKit
set_option linter.unusedVariables false
set_option linter.unusedSimpArgs false
/-- v is a list of fibres, all of its cells known. -/
abbrev Rf (w : World) (v : Value) (n : Nat) (F : Nat → Fb) : Prop := RdV w v n 3 (fun i j => fcell (F i) j)
/-- .. that owns its block g, from lo on, below hi. -/
structure OwB (lo hi : Nat) (w : World) (g n : Nat) (F : Nat → Fb) : Prop where
  lo : lo ≤ g
  hi : g < hi
  seg : SegV w g 73 n 3 (fun i j => fcell (F i) j)
theorem OwB.rd {lo hi : Nat} {w : World} {g n cap : Nat} {F : Nat → Fb} (h : OwB lo hi w g n F) : Rf w (.slice (some ⟨g, 0, none⟩) n cap) n F := h.seg.rd
theorem OwB.keep {lo hi : Nat} {w w' : World} {g n : Nat} {F : Nat → Fb} (h : OwB lo hi w g n F) (hk : Keep lo hi w w') : OwB lo hi w' g n F := ⟨h.lo, h.hi, h.seg.of_block (hk g h.lo h.hi)⟩
set_option maxRecDepth 20000 in
set_option maxHeartbeats 1600000 in
theorem toNet_any {w : World} {ao : Option Addr} {nf cp : Nat} {nodes slots : Int} {F : Nat → Fb} (h0 : Rf w (.slice ao nf cp) nf F) (hn : nf ≤ 1048576) :
    Calls Try.prog 7 #[.agg #[.int .i64 nodes, .int .i64 slots, .slice ao nf cp]] w fun e w' => ∃ g, e = .returned (.agg #[.int .i64 nodes, .int .i64 slots, .slice (some ⟨g, 0, none⟩) nf nf]) ∧ OwB w.heap.size w'.heap.size w' g nf F ∧ Below w.heap.size w w' := by
  have H0 : ∀ W, Below w.heap.size w W → Hid (Rf W (.slice ao nf cp) nf F) := fun W hb => h0.later hb
  clear h0
  go_enter Try.func7, Try.ntmps7
  go_wp2_with fail
  refine (toFbs_any (H0 _ (by go_grown)).out (by omega)).mono ?_
  rintro e w1 ⟨rfl, hs, hb⟩
  have hB : Below w.heap.size w w1 := by refine box_step ?_ hb (by simp); go_grown
  have c_3 : w1.cell? ⟨w.heap.size + 1, 0, none⟩ = some (.int .i64 0) := (hb.cell (p := ⟨w.heap.size + 1, 0, none⟩) (by first | (simp; done) | (simp; omega))).trans (by go_simp)
  have c_4 : w1.cell? ⟨w.heap.size + 1, 1, none⟩ = some (.int .i64 0) := (hb.cell (p := ⟨w.heap.size + 1, 1, none⟩) (by first | (simp; done) | (simp; omega))).trans (by go_simp)
  have c_5 : w1.cell? ⟨w.heap.size + 1, 2, none⟩ = some (.slice none 0 0) := (hb.cell (p := ⟨w.heap.size + 1, 2, none⟩) (by first | (simp; done) | (simp; omega))).trans (by go_simp)
  have c_6 : w1.cell? ⟨w.heap.size + 1 + 1, 0, none⟩ = some (.int .i64 nodes) := (hb.cell (p := ⟨w.heap.size + 1 + 1, 0, none⟩) (by first | (simp; done) | (simp; omega))).trans (by go_simp)
  have c_7 : w1.cell? ⟨w.heap.size + 1 + 1, 1, none⟩ = some (.int .i64 slots) := (hb.cell (p := ⟨w.heap.size + 1 + 1, 1, none⟩) (by first | (simp; done) | (simp; omega))).trans (by go_simp)
  have c_8 : w1.cell? ⟨w.heap.size + 1 + 1, 2, none⟩ = some (.slice none 0 0) := (hb.cell (p := ⟨w.heap.size + 1 + 1, 2, none⟩) (by first | (simp; done) | (simp; omega))).trans (by go_simp)
  have f_0 : w1.frozen? ⟨w.heap.size + 1, 0, none⟩ = false := (hb.frozen (p := ⟨w.heap.size + 1, 0, none⟩) (by first | (simp; done) | (simp; omega))).trans (by go_simp)
  have f_1 : w1.frozen? ⟨w.heap.size + 1, 1, none⟩ = false := (hb.frozen (p := ⟨w.heap.size + 1, 1, none⟩) (by first | (simp; done) | (simp; omega))).trans (by go_simp)
  have f_2 : w1.frozen? ⟨w.heap.size + 1, 2, none⟩ = false := (hb.frozen (p := ⟨w.heap.size + 1, 2, none⟩) (by first | (simp; done) | (simp; omega))).trans (by go_simp)
  have f_5 : w1.frozen? ⟨w.heap.size + 1 + 1, 2, none⟩ = false := (hb.frozen (p := ⟨w.heap.size + 1 + 1, 2, none⟩) (by first | (simp; done) | (simp; omega))).trans (by go_simp)
  simp only [World.size_alloc, World.size_setCell] at hs hb
  have HS : Hid (SegV w1 (w.heap.size + 1 + 1 + 1) 73 nf 3 (fun i j => fcell (F i) j) ∧ Below w.heap.size w w1) := ⟨hs, hB⟩
  have hw1 : w.heap.size + 1 + 1 + 1 < w1.heap.size := hs.lt
  have ho1 : w.heap.size + 1 + 1 < w1.heap.size := by omega
  have ho2 : w.heap.size + 1 < w1.heap.size := by omega
  have ho3 : w.heap.size < w1.heap.size := by omega
  clear hs hb hB H0
  go_wp2
  refine bodyPost_ret (v := .agg #[.int .i64 nodes, .int .i64 slots, .slice (some ⟨w.heap.size + 1 + 1 + 1, 0, none⟩) nf nf]) (by simp [results, Try.results7, go_sem, c_3, c_4, c_5]) rfl ⟨_, rfl, ?_, ?_⟩
  · obtain ⟨t1, t3⟩ := HS.out
    refine ⟨by omega, by simp; omega, ?_⟩
    exact (((t1.setOther (by first | (simp; done) | (simp; omega)) _).setOther (by first | (simp; done) | (simp; omega)) _).setOther (by first | (simp; done) | (simp; omega)) _).setOther (by first | (simp; done) | (simp; omega)) _
  · exact (((HS.out.2.setCell (by simp <;> omega) _).setCell (by simp <;> omega) _).setCell (by simp <;> omega) _).setCell (by simp <;> omega) _
/-- What is left of so many places. -/
def szN (left : Int) (n : Nat) : Int := if left - n < 0 then -1 else left - n
theorem szN_ok {l : Int} {n : Nat} (h : ¬ szN l n < 0) : (n : Int) ≤ l := by
  unfold szN at h
  split at h <;> omega
theorem szN_le (l : Int) (n : Nat) (h : 0 ≤ l) : szN l n ≤ l := by
  unfold szN
  split <;> omega
theorem szN_is {l : Int} {n : Nat} (h : ¬ szN l n < 0) : szN l n = l - n := by
  unfold szN at h ⊢
  split at h
  · omega
  · rename_i k; rw [if_neg k]
set_option maxRecDepth 20000 in
set_option maxHeartbeats 1600000 in
theorem szNet_any (ao : Option Addr) (n cp : Nat) (nodes slots left : Int) (w : World) (h0 : 0 ≤ left) (h1 : left ≤ 1048576) (hn : n ≤ 9223372036854775807) :
    Calls Try.prog 5 #[.agg #[.int .i64 nodes, .int .i64 slots, .slice ao n cp], .int .i64 left] w fun e w' => e = .returned (.int .i64 (szN left n)) ∧ Below w.heap.size w w' := by
  unfold szN
  by_cases h : left - n < 0
  · rw [if_pos h]
    go_enter Try.func5, Try.ntmps5
    go_wp2_with fail
    refine (szFb_any _ _ _ left _ h0 h1 hn).mono ?_
    rintro e w1 ⟨rfl, rfl⟩
    rw [if_pos h]
    go_wp2
    go_ret
    exact ⟨rfl, by go_grown⟩
  · rw [if_neg h]
    go_enter Try.func5, Try.ntmps5
    go_wp2_with fail
    refine (szFb_any _ _ _ left _ h0 h1 hn).mono ?_
    rintro e w1 ⟨rfl, rfl⟩
    rw [if_neg (by omega)]
    go_wp2
    go_ret
    exact ⟨rfl, by go_grown⟩
set_option maxRecDepth 20000 in
set_option maxHeartbeats 1600000 in
theorem eqNet_any {lo hi lo' hi' : Nat} {w : World} {g g' n cp cp' : Nat} {nodes slots : Int} {F : Nat → Fb} (h : OwB lo hi w g n F) (k : OwB lo' hi' w g' n F) (hn : n ≤ 1048576) :
    Calls Try.prog 10 #[.agg #[.int .i64 nodes, .int .i64 slots, .slice (some ⟨g, 0, none⟩) n cp], .agg #[.int .i64 nodes, .int .i64 slots, .slice (some ⟨g', 0, none⟩) n cp']] w fun e w' => e = .returned (.bool true) ∧ Below w.heap.size w w' := by
  have H : ∀ W, Below w.heap.size w W → Hid (SegV W g 73 n 3 (fun i j => fcell (F i) j) ∧ SegV W g' 73 n 3 (fun i j => fcell (F i) j)) := fun W hb => ⟨h.seg.below hb, k.seg.below hb⟩
  clear h k
  go_enter Try.func10, Try.ntmps10
  go_wp2_with fail
  refine (eqFbs_same _ _ _ _ _ _ _ (by omega) (H _ (by go_grown)).out.1 (H _ (by go_grown)).out.2).mono ?_
  rintro e w2 ⟨rfl, hb⟩
  have HB : Hid (Below w.heap.size w w2) := by refine box_step ?_ hb (by simp); go_grown
  clear hb H
  go_wp2
  go_ret
  exact ⟨rfl, HB.out⟩
set_option maxRecDepth 20000 in
set_option maxHeartbeats 1600000 in
theorem markNet_any {lo hi : Nat} {w : World} {g n cp : Nat} {nodes slots : Int} {F : Nat → Fb} (k0 : Int) (h : OwB lo hi w g n F) (h0 : 0 ≤ k0) (h1 : k0 ≤ 10000000) (hn : n ≤ 1048576) (hhi : hi ≤ w.heap.size) :
    Calls Try.prog 11 #[.agg #[.int .i64 nodes, .int .i64 slots, .slice (some ⟨g, 0, none⟩) n cp], .int .i64 k0] w fun e w' => e = .returned (.int .i64 (mF k0 n)) ∧ Within lo hi w w' := by
  have H : ∀ o, Hid (SegV (w.alloc o) g 73 n 3 (fun i j => fcell (F i) j)) := fun o => h.seg.below ((Below.refl w.heap.size w).alloc (Nat.le_refl _) o)
  have HH : Hid (lo ≤ g ∧ g < hi ∧ hi ≤ w.heap.size) := ⟨h.lo, h.hi, hhi⟩
  clear h hhi
  go_enter Try.func11, Try.ntmps11
  go_wp2_with fail
  refine (markFb_some _ _ _ k0 _ _ hn h0 (by omega) (H _).out).mono ?_
  rintro e w1 ⟨rfl, hf, hw, hz⟩
  have HT : Hid (Within lo hi w w1) := ((Within.refl _ _ _).alloc (by have := HH.out; omega) _).trans (hw.mono HH.out.1 HH.out.2.1)
  clear hf hw hz H
  go_wp2
  go_ret
  exact ⟨rfl, HT.out⟩
end Go.Proofs.Ytfpklfpcencimaa
