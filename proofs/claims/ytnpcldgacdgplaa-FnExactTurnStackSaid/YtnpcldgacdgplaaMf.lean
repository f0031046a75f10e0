/- The laws' own marks in films, and their looking for them: contracts; comparisons of lists that may be none. -/
import Derived.Test.YtnpcldgacdgplaaRv
import Derived.Test.YtnpcldgacdgplaaPz
namespace Go.Proofs.Ytnpcldgacdgplaa
open Go.RowKit Fl
set_option linter.unusedVariables false
set_option linter.unusedSimpArgs false
def mfilm (k i : Nat) : Fi := ⟨fi ((k : Int) + 3 * i), fi ((k : Int) + 3 * i + 1), (k : Int) + 3 * i + 2⟩
theorem conv3_run : ∀ (z : Int) (w : World), (convert 3 22 (.int .i64 z)).run Try.prog w = .ok (.float .f64 (fi z)) w := fun z w => run_convert_int_float w 3 22 .i64 .f64 z (by rw [Try.underlying3]; rfl) Try.underlying22
theorem fi_num {z : Int} (h0 : 0 ≤ z) (h : z < 9007199254740992) : Num (fi z) := by
  rw [fi_nat h0]
  exact (pos_int (K := 52) (n := z.toNat) (by omega) (by omega)).num (by omega)
theorem fi_self {z : Int} (h0 : 0 ≤ z) (h : z < 9007199254740992) : (FloatKind.f64.format.order (fi z) (fi z) != some .eq) = false := by
  have : FloatKind.f64.format.order (fi z) (fi z) = some .eq := order_self (fi_lt z) (fi_num h0 h)
  rw [this]; rfl
set_option maxHeartbeats 1600000 in
theorem markF_some (g n cap k0 : Nat) (f : Nat → Nat → Value) (lo : Nat) (X w : World) (hn : n ≤ 1048576) (hk0 : k0 ≤ 1000000) (hs : SegV w g 60 n 3 f) (hB : Below lo X w) (hlo : lo ≤ g) :
    Calls Try.prog 63 #[.slice (some ⟨g, 0, none⟩) n cap, .int .i64 k0] w fun e w' => e = .returned (.int .i64 ((k0 : Int) + 3 * n)) ∧ SegV w' g 60 n 3 (fun i j => fcell (mfilm k0 i) j) ∧ Below lo X w' ∧ (∀ b, b ≠ g → w'.heap[b]? = w.heap[b]?) ∧ w'.heap.size = w.heap.size := by
  have HS : Hid (SegV w g 60 n 3 f ∧ Below lo X w ∧ lo ≤ g) := ⟨hs, hB, hlo⟩
  have hst := st64
  have hcv := conv3_run
  clear hs hB hlo
  have hnI : (n : Int) ≤ 1048576 := by omega
  have hkI : (k0 : Int) ≤ 1000000 := by omega
  go_enter Try.func63, Try.ntmps63
  go_wp2_with fail
  go_loopw [1, 5] (fun s1 s5 wr => ∃ i : Nat, i ≤ n ∧ s1 = .int .i64 ((k0 : Int) + 3 * i) ∧ s5 = .int .i64 i ∧ Hid (SegV wr g 60 n 3 (fun a j => if a < i then fcell (mfilm k0 a) j else f a j) ∧ Below lo X wr ∧ (∀ b, b ≠ g → wr.heap[b]? = w.heap[b]?) ∧ wr.heap.size = w.heap.size)) (fun _ s5 _ => n - (intOf s5).toNat)
  case atStart => exact ⟨0, Nat.zero_le _, by simp, rfl, HS.out.1.congr (fun a _ j _ => by simp), HS.out.2.1, fun _ _ => rfl, rfl⟩
  case round =>
    obtain ⟨i, hi, rfl, rfl, HH⟩ := hrel
    by_cases hin : i < n
    · have a0 := HH.out.1.cell hin (show 0 < 3 by omega)
      have a1 := HH.out.1.cell hin (show 1 < 3 by omega)
      have a2 := HH.out.1.cell hin (show 2 < 3 by omega)
      have fz : ∀ j, wr.frozen? ⟨g, j, none⟩ = false := fun j => HH.out.1.frozen j
      simp only [Nat.add_zero, Nat.lt_irrefl, if_false] at a0 a1 a2
      have hiI : (i : Int) < n := by omega
      obtain ⟨K, hK⟩ : ∃ K : Int, K = (k0 : Int) + 3 * i := ⟨_, rfl⟩
      have hK0 : 0 ≤ K := by omega
      have hK1 : K ≤ 5000000 := by omega
      have HK : Hid (K = (k0 : Int) + 3 * i) := hK
      rw [← hK]
      have HW : Hid (SegV (((wr.setCell ⟨g, i * 3, none⟩ (.float .f64 (fi K))).setCell ⟨g, i * 3 + 1, none⟩ (.float .f64 (fi (K + 1)))).setCell ⟨g, i * 3 + 2, none⟩ (.int .i64 (K + 1 + 1))) g 60 n 3 (fun a j => if a < i + 1 then fcell (mfilm k0 a) j else f a j) ∧
          Below lo X (((wr.setCell ⟨g, i * 3, none⟩ (.float .f64 (fi K))).setCell ⟨g, i * 3 + 1, none⟩ (.float .f64 (fi (K + 1)))).setCell ⟨g, i * 3 + 2, none⟩ (.int .i64 (K + 1 + 1))) ∧
          (∀ b, b ≠ g → (((wr.setCell ⟨g, i * 3, none⟩ (.float .f64 (fi K))).setCell ⟨g, i * 3 + 1, none⟩ (.float .f64 (fi (K + 1)))).setCell ⟨g, i * 3 + 2, none⟩ (.int .i64 (K + 1 + 1))).heap[b]? = w.heap[b]?) ∧
          (((wr.setCell ⟨g, i * 3, none⟩ (.float .f64 (fi K))).setCell ⟨g, i * 3 + 1, none⟩ (.float .f64 (fi (K + 1)))).setCell ⟨g, i * 3 + 2, none⟩ (.int .i64 (K + 1 + 1))).heap.size = w.heap.size) := by
        refine ⟨(HH.out.1.put3 hin _ _ _).congr fun a ha j hj => ?_, below_put3 HH.out.2.1 HS.out.2.2 i _ _ _, fun b hb => ?_, ?_⟩
        · by_cases c : a = i
          · subst c
            have e2 : mfilm k0 a = ⟨fi K, fi (K + 1), K + 1 + 1⟩ := by unfold mfilm; rw [← hK]; congr 1; omega
            have e3 : a < a + 1 := by omega
            match j, hj with
            | 0, _ => simp [e2, e3, fcell]
            | 1, _ => simp [e2, e3, fcell]
            | 2, _ => simp [e2, e3, fcell]
          · rw [if_neg c]
            by_cases c2 : a < i
            · rw [if_pos c2, if_pos (by omega)]
            · rw [if_neg c2, if_neg (by omega)]
        · rw [Below.heap_setCell _ _ _ _ (by simpa using hb), Below.heap_setCell _ _ _ _ (by simpa using hb), Below.heap_setCell _ _ _ _ (by simpa using hb)]
          exact HH.out.2.2.1 b hb
        · simpa using HH.out.2.2.2
      clear hK HH
      go_wp2
      go_roundw
      case rel => exact ⟨i + 1, by omega, by have := HK.out; congr 1; omega, by simp, HW⟩
      case measure => simp [intOf]; omega
    · obtain rfl : i = n := by omega
      go_wp2
      go_ret
      exact ⟨rfl, HH.out.1.congr fun a ha j _ => by simp [ha], HH.out.2⟩
set_option maxHeartbeats 1600000 in
theorem markF_none (ao : Option Addr) (cap k0 : Nat) (w : World) : Calls Try.prog 63 #[.slice ao 0 cap, .int .i64 k0] w fun e w' => e = .returned (.int .i64 (k0 : Int)) ∧ w = w' := by
  go_enter Try.func63, Try.ntmps63
  go_wp2_with fail
  refine wp_loop_rounds 1 ?_
  rw [rounds_succ]
  go_wp2
  go_ret
  exact ⟨rfl, rfl⟩
set_option maxHeartbeats 3200000 in
theorem heldF_some (g n cap k0 : Nat) (w : World) (hn : n ≤ 1048576) (hk0 : k0 ≤ 1000000) (hs : SegV w g 60 n 3 (fun i j => fcell (mfilm k0 i) j)) :
    Calls Try.prog 64 #[.slice (some ⟨g, 0, none⟩) n cap, .int .i64 k0] w fun e w' => e = .returned (.int .i64 ((k0 : Int) + 3 * n)) ∧ w = w' := by
  have HS : Hid (SegV w g 60 n 3 (fun i j => fcell (mfilm k0 i) j)) := hs
  have hcv := conv3_run
  clear hs
  have hnI : (n : Int) ≤ 1048576 := by omega
  have hkI : (k0 : Int) ≤ 1000000 := by omega
  go_enter Try.func64, Try.ntmps64
  go_wp2_with fail
  go_loopw [1, 5] (fun s1 s5 wr => wr = w ∧ ∃ i : Nat, i ≤ n ∧ s1 = .int .i64 ((k0 : Int) + 3 * i) ∧ s5 = .int .i64 i) (fun _ s5 _ => n - (intOf s5).toNat)
  case atStart => exact ⟨rfl, 0, Nat.zero_le _, by simp, rfl⟩
  case round =>
    obtain ⟨rfl, i, hi, rfl, rfl⟩ := hrel
    by_cases hin : i < n
    · have a0 := HS.out.cell hin (show 0 < 3 by omega)
      have a1 := HS.out.cell hin (show 1 < 3 by omega)
      have a2 := HS.out.cell hin (show 2 < 3 by omega)
      have hiI : (i : Int) < n := by omega
      obtain ⟨K, hK⟩ : ∃ K : Int, K = (k0 : Int) + 3 * i := ⟨_, rfl⟩
      have hK0 : 0 ≤ K := by omega
      have hK1 : K ≤ 5000000 := by omega
      have e2 : mfilm k0 i = ⟨fi K, fi (K + 1), K + 1 + 1⟩ := by unfold mfilm; rw [← hK]; congr 1; omega
      rw [e2] at a0 a1 a2
      simp only [Nat.add_zero, fcell_0, fcell_1, fcell_2] at a0 a1 a2
      have f0 := fi_self hK0 (show K < 9007199254740992 by omega)
      have f1 := fi_self (show 0 ≤ K + 1 by omega) (show K + 1 < 9007199254740992 by omega)
      have HK : Hid (K = (k0 : Int) + 3 * i) := hK
      rw [← hK]
      clear hK e2
      go_wp2
      go_roundw
      case rel => exact ⟨by trivial, i + 1, by omega, by have := HK.out; congr 1; omega, by simp⟩
      case measure => simp [intOf]; omega
    · obtain rfl : i = n := by omega
      go_wp2
      go_ret
      exact ⟨rfl, rfl⟩
set_option maxHeartbeats 1600000 in
theorem heldF_none (ao : Option Addr) (cap k0 : Nat) (w : World) : Calls Try.prog 64 #[.slice ao 0 cap, .int .i64 k0] w fun e w' => e = .returned (.int .i64 (k0 : Int)) ∧ w = w' := by
  go_enter Try.func64, Try.ntmps64
  go_wp2_with fail
  refine wp_loop_rounds 1 ?_
  rw [rounds_succ]
  go_wp2
  go_ret
  exact ⟨rfl, rfl⟩
set_option maxHeartbeats 1600000 in
theorem eqFs_none (ao ao' : Option Addr) (cap cap' : Nat) (w : World) : Calls Try.prog 36 #[.slice ao 0 cap, .slice ao' 0 cap'] w fun e w' => e = .returned (.bool true) ∧ Below w.heap.size w w' := by
  go_enter Try.func36, Try.ntmps36
  go_wp2_with fail
  refine wp_loop_rounds 1 ?_
  rw [rounds_succ]
  go_wp2
  go_ret
  exact ⟨rfl, Below.refl _ _⟩
theorem eqFs_own {lo lo' : Nat} {v v' : Value} {n : Nat} {G : Nat → Fi} {w : World} (hn : n ≤ 1000000000000) (h : OwV w lo v n (fun i j => fcell (G i) j)) (h' : OwV w lo' v' n (fun i j => fcell (G i) j)) (ok : ∀ i, i < n → FiOk (G i)) :
    Calls Try.prog 36 #[v, v'] w fun e w' => e = .returned (.bool true) ∧ Below w.heap.size w w' := by
  rcases h with ⟨ao, cap, rfl, rfl⟩ | ⟨g, cap, rfl, _, hs⟩
  · obtain ⟨ao', cap', rfl⟩ := h'.form
    exact eqFs_none ao ao' cap cap' w
  · rcases h' with ⟨ao', cap', rfl, rfl⟩ | ⟨g', cap', rfl, _, hs'⟩
    · exact eqFs_none _ _ _ _ w
    · exact eqFs_same _ _ _ _ n G w hn hs hs' ok
set_option maxHeartbeats 1600000 in
theorem eqSt_own {a o lo lo' : Nat} {v v' : Value} {n : Nat} {G : Nat → Fi} {w : World} (ha : a < 18446744073709551616) (ho : o < 18446744073709551616) (hn : n ≤ 1000000000000) (h : OwV w lo v n (fun i j => fcell (G i) j)) (h' : OwV w lo' v' n (fun i j => fcell (G i) j)) (ok : ∀ i, i < n → FiOk (G i)) :
    Calls Try.prog 13 #[Sv a o v, Sv a o v'] w fun e w' => e = .returned (.bool true) ∧ Below w.heap.size w w' := by
  have H1 : Hid (∀ w, Calls Try.prog 35 #[.float .f64 a, .float .f64 a] w fun e w' => e = .returned (.bool true) ∧ w = w') := same_any ha ha rfl
  have H2 : Hid (∀ w, Calls Try.prog 35 #[.float .f64 o, .float .f64 o] w fun e w' => e = .returned (.bool true) ∧ w = w') := same_any ho ho rfl
  have H3 : Hid (∀ W, Below w.heap.size w W → Calls Try.prog 36 #[v, v'] W fun e w' => e = .returned (.bool true) ∧ Below W.heap.size W w') := fun W hW => eqFs_own hn (h.later hW) (h'.later hW) ok
  obtain ⟨ao, cap, rfl⟩ := h.form
  obtain ⟨ao', cap', rfl⟩ := h'.form
  clear ha ho h h' ok hn
  go_enter Try.func13, Try.ntmps13
  go_wp2_with fail
  refine (H1.out _).mono ?_
  rintro e w1 ⟨rfl, rfl⟩
  go_wp2_with fail
  refine (H2.out _).mono ?_
  rintro e w1 ⟨rfl, rfl⟩
  go_wp2_with fail
  refine (H3.out _ ?_).mono ?_
  · go_grown
  rintro e w1 ⟨rfl, b1⟩
  have A1 : Hid (Below w.heap.size w w1) := Below.trans (by go_grown) (b1.mono (by simp <;> omega))
  clear b1
  go_wp2
  go_ret
  exact ⟨rfl, A1.out⟩
/-- What was there is as it was, but for one block. -/
structure Only (g : Nat) (w w' : World) : Prop where
  os : w'.os = w.os
  tape : w'.tape = w.tape
  output : w'.output = w.output
  size : w.heap.size ≤ w'.heap.size
  block : ∀ k, k < w.heap.size → k ≠ g → w'.heap[k]? = w.heap[k]?
theorem Only.below {g B : Nat} {X w w' : World} (h : Only g w w') (k : Below B X w) (hg : B ≤ g) (hB : B ≤ X.heap.size) : Below B X w' :=
  ⟨h.os.trans k.os, h.tape.trans k.tape, h.output.trans k.output, Nat.le_trans k.size h.size, fun i hi => (h.block i (Nat.lt_of_lt_of_le hi (Nat.le_trans hB k.size)) (by omega)).trans (k.block i hi)⟩
theorem Only.seg {g b : Nat} {w w' : World} {t : TypeId} {n m : Nat} {f : Nat → Nat → Value} (h : Only g w w') (s : SegV w b t n m f) (hne : b ≠ g) : SegV w' b t n m f := s.of_block (h.block b s.lt hne)
theorem Only.cell {g b j : Nat} {w w' : World} {v : Value} (h : Only g w w') (c : w.cell? ⟨b, j, none⟩ = some v) (hne : b ≠ g) : w'.cell? ⟨b, j, none⟩ = some v := by
  have hb := World.block_lt_of_cell? _ _ c
  simp only [World.cell?] at c ⊢
  rw [h.block b hb hne]
  exact c
set_option maxHeartbeats 1600000 in
theorem markSt_seg {a o g n cap : Nat} {f : Nat → Nat → Value} {w : World} (hn : n ≤ 1048576) (hs : SegV w g 60 n 3 f) :
    Calls Try.prog 27 #[Sv a o (.slice (some ⟨g, 0, none⟩) n cap), .int .i64 1] w fun e w' => e = .returned (.int .i64 (1 + 3 * n)) ∧ SegV w' g 60 n 3 (fun i j => fcell (mfilm 1 i) j) ∧ Only g w w' := by
  have H : Hid (∀ W, Below w.heap.size w W → W.heap.size = w.heap.size + 1 → Calls Try.prog 63 #[.slice (some ⟨g, 0, none⟩) n cap, .int .i64 1] W fun e w' => e = .returned (.int .i64 (1 + 3 * n)) ∧ SegV w' g 60 n 3 (fun i j => fcell (mfilm 1 i) j) ∧ Only g w w') := by
    intro W hW hz
    refine (markF_some g n cap 1 f 0 W W hn (by omega) (hs.below hW) (Below.refl _ _) (Nat.zero_le _)).mono ?_
    rintro e w' ⟨rfl, s1, b1, o1, z1⟩
    exact ⟨rfl, s1, b1.os.trans hW.os, b1.tape.trans hW.tape, b1.output.trans hW.output, by omega, fun k hk hne => (o1 k hne).trans (hW.block k hk)⟩
  clear hs
  go_enter Try.func27, Try.ntmps27
  go_wp2_with fail
  refine (H.out _ ?_ ?_).mono ?_
  · go_grown
  · simp
  rintro e w1 ⟨rfl, s1, o1⟩
  have A : Hid (SegV w1 g 60 n 3 (fun i j => fcell (mfilm 1 i) j) ∧ Only g w w1) := ⟨s1, o1⟩
  clear s1 o1
  go_wp2
  go_ret
  exact ⟨rfl, A.out⟩
set_option maxHeartbeats 1600000 in
theorem markSt_none {a o : Nat} (ao : Option Addr) (cap : Nat) (w : World) :
    Calls Try.prog 27 #[Sv a o (.slice ao 0 cap), .int .i64 1] w fun e w' => e = .returned (.int .i64 1) ∧ Below w.heap.size w w' := by
  have H : Hid (∀ w, Calls Try.prog 63 #[.slice ao 0 cap, .int .i64 1] w fun e w' => e = .returned (.int .i64 1) ∧ w = w') := markF_none ao cap 1
  go_enter Try.func27, Try.ntmps27
  go_wp2_with fail
  refine (H.out _).mono ?_
  rintro e w1 ⟨rfl, rfl⟩
  go_wp2
  go_ret
  refine ⟨rfl, ?_⟩
  go_grown
theorem markSt_own {a o lo : Nat} {v : Value} {n : Nat} {f : Nat → Nat → Value} {w : World} (hn : n ≤ 1048576) (hlo : lo ≤ w.heap.size) (h : OwV w lo v n f) :
    Calls Try.prog 27 #[Sv a o v, .int .i64 1] w fun e w' => e = .returned (.int .i64 (1 + 3 * n)) ∧ OwV w' lo v n (fun i j => fcell (mfilm 1 i) j) ∧ Below lo w w' := by
  rcases h with ⟨ao, cap, rfl, rfl⟩ | ⟨g, cap, rfl, hg, hs⟩
  · refine (markSt_none ao cap w).mono ?_
    rintro e w' ⟨rfl, b⟩
    exact ⟨rfl, Or.inl ⟨_, _, rfl, rfl⟩, b.mono hlo⟩
  · refine (markSt_seg hn hs).mono ?_
    rintro e w' ⟨rfl, s, o⟩
    exact ⟨rfl, Or.inr ⟨g, cap, rfl, hg, s⟩, o.below (Below.refl _ _) hg hlo⟩
set_option maxHeartbeats 1600000 in
theorem heldSt_own {a o lo : Nat} {v : Value} {n : Nat} {w : World} (hn : n ≤ 1048576) (h : OwV w lo v n (fun i j => fcell (mfilm 1 i) j)) :
    Calls Try.prog 28 #[Sv a o v, .int .i64 1] w fun e w' => e = .returned (.int .i64 (1 + 3 * n)) ∧ Below w.heap.size w w' := by
  have H : Hid (∀ W, Below w.heap.size w W → Calls Try.prog 64 #[v, .int .i64 1] W fun e w' => e = .returned (.int .i64 (1 + 3 * n)) ∧ W = w') := by
    intro W hW
    rcases h with ⟨ao, cap, rfl, rfl⟩ | ⟨g, cap, rfl, hg, hs⟩
    · exact heldF_none ao cap 1 W
    · exact heldF_some g n cap 1 W hn (by omega) (hs.below hW)
  obtain ⟨ao, cap, rfl⟩ := h.form
  clear h
  have h2 : ¬ ((1 : Int) + 3 * n < 0) := by omega
  go_enter Try.func28, Try.ntmps28
  go_wp2_with fail
  refine (H.out _ ?_).mono ?_
  · go_grown
  rintro e w1 ⟨rfl, rfl⟩
  go_wp2
  go_ret
  refine ⟨rfl, ?_⟩
  go_grown
end Go.Proofs.Ytnpcldgacdgplaa
