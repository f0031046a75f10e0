/- Waves that are transformed and restored: the program's functions and the specification's: contracts. -/
import Derived.Test.YtpkbpikdffbadaaDoorSq
namespace Go.Proofs.YtpkbpikdffbadaaDoor
open Go.RowKit
set_option linter.unusedVariables false
/-- The result's cell, as it was made. -/
def Rc (w W : World) : Prop := W.heap[w.heap.size]? = some (.cells #[.int .i64 0, .slice none 0 0] 24 (0, 0)) ∧ Below w.heap.size w W ∧ w.heap.size + 1 ≤ W.heap.size
theorem Rc.start (w : World) : Rc w (w.alloc (.cells #[.int .i64 0, .slice none 0 0] 24)) := ⟨heap_alloc_new _ _, (Below.refl _ _).alloc (Nat.le_refl _) _, by simp⟩
theorem Rc.later {w W W' : World} (h : Rc w W) (hb : Below W.heap.size W W') : Rc w W' := ⟨(hb.block _ (by have := h.2.2; omega)).trans h.1, h.2.1.trans (hb.mono (by have := h.2.2; omega)), Nat.le_trans h.2.2 hb.size⟩
theorem Rc.c0 {w W : World} (h : Rc w W) : W.cell? ⟨w.heap.size, 0, none⟩ = some (.int .i64 0) := by simp [World.cell?, h.1]
theorem Rc.c1 {w W : World} (h : Rc w W) : W.cell? ⟨w.heap.size, 1, none⟩ = some (.slice none 0 0) := by simp [World.cell?, h.1]
theorem Rc.fz {w W : World} (h : Rc w W) (j : Nat) : W.frozen? ⟨w.heap.size, j, none⟩ = false := by simp [World.frozen?, h.1]
theorem Rc.told {w W : World} (h : Rc w W) {g n cap : Nat} {f : Nat → Int} (hg : w.heap.size + 1 ≤ g) (hs : Seg W g 2 0 n (fun i => .int .i64 (f i))) (x y : Value) :
    OwnL w.heap.size ((W.setCell ⟨w.heap.size, 0, none⟩ x).setCell ⟨w.heap.size, 1, none⟩ y).heap.size ((W.setCell ⟨w.heap.size, 0, none⟩ x).setCell ⟨w.heap.size, 1, none⟩ y) 0 (.slice (some ⟨g, 0, none⟩) n cap) n f ∧ Below w.heap.size w ((W.setCell ⟨w.heap.size, 0, none⟩ x).setCell ⟨w.heap.size, 1, none⟩ y) := by
  have hs2 := (hs.setOther (a := ⟨w.heap.size, 0, none⟩) (by show g ≠ w.heap.size; omega) x).setOther (a := ⟨w.heap.size, 1, none⟩) (by show g ≠ w.heap.size; omega) y
  exact ⟨Or.inr ⟨rfl, g, cap, rfl, by omega, hs2.lt, hs2⟩, (h.2.1.setCell (Nat.le_refl _) _).setCell (Nat.le_refl _) _⟩

theorem root_n {n k : Nat} (hk : k ≤ 10) (hn : n = 2 ^ k) (w : World) (T : Tab w) : Calls Tryd.prog 34 #[.int .i64 (n : Int)] w fun e w' => e = .returned (.int .i64 (Rm.rootI k)) ∧ Below w.heap.size w w' := by rw [hn]; exact waveRoot_any k hk w T
theorem trans_n {n k : Nat} (hk : k ≤ 10) (hn : n = 2 ^ k) {w : World} {v vp : Value} {f p : Nat → Int} (a : RdRow w v n f) (b : RdRow w vp n p) : Calls Tryd.prog 32 #[v, vp] w fun e w' => ∃ g, e = .returned (.slice (some ⟨g, 0, none⟩) n n) ∧ w.heap.size ≤ g ∧ Seg w' g 40 0 n (fun j => .int .i64 (Wv.tr k f p j)) ∧ Below w.heap.size w w' := by
  subst hn
  exact trans_any k hk a b
theorem sum_n {n k : Nat} (hk : k ≤ 10) (hn : n = 2 ^ k) {w : World} {v : Value} {f : Nat → Int} (r : Int) (a : RdRow w v n f) : Calls Tryd.prog 27 #[v, .int .i64 r] w fun e w' => ∃ g, e = .returned (.slice (some ⟨g, 0, none⟩) n n) ∧ w.heap.size ≤ g ∧ Seg w' g 2 0 n (fun j => .int .i64 (Wv.ft k f r j)) ∧ Below w.heap.size w w' := by
  subst hn
  exact sum_any k hk r a
set_option maxHeartbeats 1000000 in
theorem spectrum_any {n k : Nat} (hk : k ≤ 10) (hn : n = 2 ^ k) {w : World} {v : Value} {f : Nat → Int} (hf : RdRow w v n (fun i => Rm.md (f i))) (T : Tab w) :
    Calls Tryd.prog 18 #[v] w fun e w' => ∃ g, e = .returned (.slice (some ⟨g, 0, none⟩) n n) ∧ w.heap.size ≤ g ∧ Seg w' g 40 0 n (fun j => .int .i64 (Wv.ft k f (Rm.rootI k) j)) ∧ Below w.heap.size w w' := by
  have hp := Wv.pow10 hk
  rw [← hn] at hp
  obtain ⟨h0, h1⟩ := hp
  have RT : Hid (∀ w, Tab w → Calls Tryd.prog 34 #[.int .i64 (n : Int)] w fun e w' => e = .returned (.int .i64 (Rm.rootI k)) ∧ Below w.heap.size w w') := root_n hk hn
  have RF : Hid (RdRow w v n (fun i => Rm.md (f i))) := hf
  have HT : Hid (Tab w) := T
  have HK : Hid (k ≤ 10 ∧ n = 2 ^ k) := ⟨hk, hn⟩
  obtain ⟨bf, of, capf, rfl, cf⟩ := hf.get (by omega)
  clear hf cf T hk hn
  go_enter Tryd.func18, Tryd.ntmps18
  go_wp2_with fail
  refine (RT.out _ HT.out).mono ?_
  rintro e w1 ⟨rfl, b1⟩
  have B1 : Hid (Below w.heap.size w w1) := b1
  clear b1
  go_wp2_with fail
  refine (powers_any _ n (by omega) _).mono ?_
  rintro e w2 ⟨rfl, hss, hbb, hzz⟩
  have B2 : Hid (Below w.heap.size w w2) := B1.out.trans (hbb.mono B1.out.size)
  have S2 : Hid (Seg w2 w1.heap.size 40 0 n (fun i => .int .i64 (Rm.powM (Rm.rootI k) i))) := hss
  clear hss hbb hzz
  go_wp2_with fail
  refine (trans_n HK.out.1 HK.out.2 (RF.out.later B2.out) S2.out.rd).mono ?_
  rintro e w3 ⟨g, rfl, hg, hss, hbb⟩
  have B3 : Hid (Below w.heap.size w w3 ∧ w.heap.size ≤ g) := ⟨B2.out.trans (hbb.mono B2.out.size), Nat.le_trans B2.out.size hg⟩
  have S3 : Hid (Seg w3 g 40 0 n (fun j => .int .i64 (Wv.ft k f (Rm.rootI k) j))) := hss.congr fun j hj => by
    rw [show Wv.tr k (fun i => Rm.md (f i)) (fun i => Rm.powM (Rm.rootI k) i) j = Wv.ft k f (Rm.rootI k) j from Wv.tr_ft k f _ j (Wv.root_rt HK.out.1) (by rw [← HK.out.2]; exact hj)]
  clear hss hbb hg
  go_wp2
  go_ret
  exact ⟨g, rfl, B3.out.2, S3.out, B3.out.1⟩
set_option maxHeartbeats 1000000 in
theorem restored_any {n k : Nat} (hk : k ≤ 10) (hn : n = 2 ^ k) {w : World} {v : Value} {f : Nat → Int} (hf : RdRow w v n (fun i => Rm.md (f i))) (T : Tab w) :
    Calls Tryd.prog 22 #[v] w fun e w' => ∃ g, e = .returned (.slice (some ⟨g, 0, none⟩) n n) ∧ w.heap.size ≤ g ∧ Seg w' g 40 0 n (fun j => .int .i64 (Rm.mulM (Wv.ft k f (Rm.invM (Rm.rootI k)) j) (Rm.invM (n : Int)))) ∧ Below w.heap.size w w' := by
  have hp := Wv.pow10 hk
  rw [← hn] at hp
  obtain ⟨h0, h1⟩ := hp
  have RT : Hid (∀ w, Tab w → Calls Tryd.prog 34 #[.int .i64 (n : Int)] w fun e w' => e = .returned (.int .i64 (Rm.rootI k)) ∧ Below w.heap.size w w') := root_n hk hn
  have RF : Hid (RdRow w v n (fun i => Rm.md (f i))) := hf
  have HT : Hid (Tab w) := T
  have HK : Hid (k ≤ 10 ∧ n = 2 ^ k) := ⟨hk, hn⟩
  obtain ⟨bf, of, capf, rfl, cf⟩ := hf.get (by omega)
  clear hf cf T hk hn
  go_enter Tryd.func22, Tryd.ntmps22
  go_wp2_with fail
  refine (RT.out _ HT.out).mono ?_
  rintro e w1 ⟨rfl, b1⟩
  have B1 : Hid (Below w.heap.size w w1) := b1
  clear b1
  go_wp2_with fail
  refine (inverse_any _ _).mono ?_
  rintro e wx ⟨rfl, rfl⟩
  go_wp2_with fail
  refine (powers_any _ n (by omega) _).mono ?_
  rintro e w2 ⟨rfl, hss, hbb, hzz⟩
  have B2 : Hid (Below w.heap.size w w2) := B1.out.trans (hbb.mono B1.out.size)
  have S2 : Hid (Seg w2 w1.heap.size 40 0 n (fun i => .int .i64 (Rm.powM (Rm.invM (Rm.rootI k)) i))) := hss
  clear hss hbb hzz
  go_wp2_with fail
  refine (trans_n HK.out.1 HK.out.2 (RF.out.later B2.out) S2.out.rd).mono ?_
  rintro e w3 ⟨g, rfl, hg, hss, hbb⟩
  have B3 : Hid (Below w.heap.size w w3) := B2.out.trans (hbb.mono B2.out.size)
  have S3 : Hid (Seg w3 g 40 0 n (fun j => .int .i64 (Wv.ft k f (Rm.invM (Rm.rootI k)) j))) := hss.congr fun j hj => by
    rw [show Wv.tr k (fun i => Rm.md (f i)) (fun i => Rm.powM (Rm.invM (Rm.rootI k)) i) j = Wv.ft k f (Rm.invM (Rm.rootI k)) j from Wv.tr_ft k f _ j (Wv.root_irt HK.out.1) (by rw [← HK.out.2]; exact hj)]
  clear hss hbb hg
  go_wp2_with fail
  refine (inverse_any _ _).mono ?_
  rintro e wx ⟨rfl, rfl⟩
  go_wp2_with fail
  refine (scaled_any S3.out.rd _ (by omega) (by omega)).mono ?_
  rintro e w4 ⟨rfl, hss, hbb, hzz⟩
  have B4 : Hid (Below w.heap.size w w4 ∧ w.heap.size ≤ w3.heap.size) := ⟨B3.out.trans (hbb.mono B3.out.size), B3.out.size⟩
  have S4 : Hid (Seg w4 w3.heap.size 40 0 n (fun j => .int .i64 (Rm.mulM (Wv.ft k f (Rm.invM (Rm.rootI k)) j) (Rm.invM (n : Int))))) := hss
  clear hss hbb hzz
  go_wp2
  go_ret
  exact ⟨w3.heap.size, rfl, B4.out.2, S4.out, B4.out.1⟩
theorem sRootOf_any {n k : Nat} (hk : k ≤ 10) (hn : n = 2 ^ k) (ao : Option Addr) (cap : Nat) (w : World) : Calls Tryd.prog 28 #[.slice ao n cap] w fun e w' => e = .returned (.int .i64 (Rm.rootI k)) ∧ w = w' := by
  have hp := Wv.pow10 hk
  rw [← hn] at hp
  have hl : Wv.lgI n = (k : Int) := by rw [hn]; exact Wv.lgI_of k hk
  have HL : Hid (Wv.lgI n = (k : Int)) := hl
  clear hn hl
  go_enter Tryd.func28, Tryd.ntmps28
  go_wp2_with fail
  refine (log_any n hp.2 _).mono ?_
  rintro e w1 ⟨rfl, rfl⟩
  rw [HL.out]
  go_wp2_with fail
  refine (sRoot_any _ _).mono ?_
  rintro e w1 ⟨rfl, rfl⟩
  go_wp2
  go_ret
  exact ⟨rfl, rfl⟩
end Go.Proofs.YtpkbpikdffbadaaDoor
