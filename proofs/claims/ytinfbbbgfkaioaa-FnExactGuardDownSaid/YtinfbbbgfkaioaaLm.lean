/- Lists of lights: the laws' own marks, and what holds them. -/
import Derived.Test.YtinfbbbgfkaioaaLc
import Derived.Test.YtinfbbbgfkaioaaRw
namespace Go.Proofs.Ytinfbbbgfkaioaa
open Go.RowKit
set_option linter.unusedVariables false
set_option linter.unusedSimpArgs false
/-- The first mark of light i, that of the first light being k. -/
def mLs (k : Int) (L : Nat → Li) (i : Nat) : Int := k + 5 * (i : Int) + (LSm L i : Nat)
def mkL (k : Int) (L : Nat → Li) (i : Nat) : Li := ⟨mLs k L i, mLs k L i + 1, mLs k L i + 1 + 1, (L i).np, fun j => mLs k L i + 1 + 1 + 1 + j, mLs k L i + 1 + 1 + 1 + (L i).np, mLs k L i + 1 + 1 + 1 + (L i).np + 1⟩
theorem mLs_next (k : Int) (L : Nat → Li) (i : Nat) : mLs k L (i + 1) = mLs k L i + 1 + 1 + 1 + (L i).np + 1 + 1 := by
  unfold mLs
  show k + 5 * ((i + 1 : Nat) : Int) + ((LSm L i + (L i).np : Nat) : Int) = _
  omega
theorem mLs_lo (k : Int) (L : Nat → Li) (n : Nat) : k ≤ mLs k L n := by unfold mLs; omega
theorem mLs_hi (k : Int) {n : Nat} {L : Nat → Li} (h : LFew n L) : mLs k L n ≤ k + 8000000 := by
  have h1 := h.cn
  have h2 := h.cs
  unfold mLs
  omega
theorem mLs_mid (k : Int) {n i : Nat} {L : Nat → Li} (h : LFew n L) (hi : i ≤ n) : mLs k L i ≤ k + 8000000 := by
  have h1 := h.cn
  have h2 : Sm (fun i => (L i).np) n ≤ 1048576 := h.cs
  have h3 := Sm_le (L := fun i => (L i).np) hi
  unfold mLs LSm
  omega
set_option maxRecDepth 20000 in
set_option maxHeartbeats 3200000 in
theorem markLits_any {lo hi : Nat} {w : World} {g n cap : Nat} {L : Nat → Li} (k0 : Int) (h : OwLs lo hi w g n L) (h0 : 0 ≤ k0) (h1 : k0 ≤ 100000000) (hf : LFew n L) :
    Calls Try.prog 22 #[.slice (some ⟨g, 0, none⟩) n cap, .int .i64 k0] w fun e w' => e = .returned (.int .i64 (mLs k0 L n)) ∧ OwLs lo hi w' g n (mkL k0 L) ∧ Within lo hi w w' := by
  obtain ⟨PB, PC, q1, q2, q3, q4, q5⟩ := h
  have HQ : Hid (lo ≤ g ∧ g < hi ∧ (∀ a, a < n → lo ≤ PB a ∧ PB a < hi ∧ PB a ≠ g) ∧ ∀ i j, i < n → j < n → PB i = PB j → i = j) := ⟨q1, q2, fun a ha => ⟨(q4 a ha).1, (q4 a ha).2.1, fun e => by
    obtain ⟨c, hb, _⟩ := (q4 a ha).2.2
    obtain ⟨c', hb', _⟩ := q3
    rw [e, hb'] at hb
    simp at hb⟩, q5⟩
  have H0 : Hid (SegV w g 80 n 6 (fun a j => if a < 0 then lcell (mkL k0 L a) (.slice (some ⟨PB a, 0, none⟩) (L a).np (PC a)) j else lcell (L a) (.slice (some ⟨PB a, 0, none⟩) (L a).np (PC a)) j) ∧ (∀ a, a < n → Seg w (PB a) 2 0 (L a).np (fun q => .int .i64 (if a < 0 then (mkL k0 L a).p q else (L a).p q)))) := ⟨q3.congr fun a _ j _ => by simp, fun a ha => (q4 a ha).2.2.congr fun q _ => by simp⟩
  have HF : Hid (LFew n L) := hf
  have hnI : (n : Int) ≤ 1048576 := by have := hf.cn; omega
  clear q1 q2 q3 q4 q5 hf
  go_enter Try.func22, Try.ntmps22
  go_wp2_with fail
  go_loopw [1, 5] (fun s1 s5 wr => ∃ i : Nat, i ≤ n ∧ s1 = .int .i64 (mLs k0 L i) ∧ s5 = .int .i64 i ∧ Hid (SegV wr g 80 n 6 (fun a j => if a < i then lcell (mkL k0 L a) (.slice (some ⟨PB a, 0, none⟩) (L a).np (PC a)) j else lcell (L a) (.slice (some ⟨PB a, 0, none⟩) (L a).np (PC a)) j) ∧ (∀ a, a < n → Seg wr (PB a) 2 0 (L a).np (fun q => .int .i64 (if a < i then (mkL k0 L a).p q else (L a).p q))) ∧ Within lo hi w wr)) (fun _ s5 _ => n - (intOf s5).toNat)
  case atStart => exact ⟨0, Nat.zero_le _, by simp [mLs, LSm, Sm], rfl, H0.out.1, H0.out.2, Within.refl _ _ _⟩
  case round =>
    obtain ⟨i, hle, rfl, rfl, HI⟩ := hrel
    by_cases hin : i < n
    · obtain ⟨K, hK⟩ : ∃ K, K = mLs k0 L i := ⟨_, rfl⟩
      obtain ⟨m, hm⟩ : ∃ m, m = (L i).np := ⟨_, rfl⟩
      have hK0 : 0 ≤ K := by rw [hK]; have := mLs_lo k0 L i; omega
      have hK1 : K ≤ 200000000 := by rw [hK]; have := mLs_mid k0 HF.out (Nat.le_of_lt hin); omega
      have hm1 : m ≤ 1048576 := by rw [hm]; exact HF.out.each hin
      have hmI : (m : Int) ≤ 1048576 := by omega
      have HK : Hid (K = mLs k0 L i ∧ m = (L i).np) := ⟨hK, hm⟩
      have HN : Hid (mLs k0 L (i + 1) = K + 1 + 1 + 1 + m + 1 + 1) := by rw [hK, hm]; exact mLs_next k0 L i
      have hiI : (i : Int) < n := by omega
      rw [← hK]
      have fz : ∀ j, wr.frozen? ⟨g, j, none⟩ = false := fun j => HI.out.1.frozen j
      have a0 := HI.out.1.cell hin (show 0 < 6 by omega)
      have a1 := HI.out.1.cell hin (show 1 < 6 by omega)
      have a2 := HI.out.1.cell hin (show 2 < 6 by omega)
      have a3 := HI.out.1.cell hin (show 3 < 6 by omega)
      have a4 := HI.out.1.cell hin (show 4 < 6 by omega)
      have a5 := HI.out.1.cell hin (show 5 < 6 by omega)
      simp only [Nat.add_zero, Nat.lt_irrefl, if_false, lcell, ← hm] at a0 a1 a2 a3 a4 a5
      clear hK hm
      obtain ⟨U, hU⟩ : ∃ U, U = (((wr.setCell ⟨g, i * 6, none⟩ (.int .i64 (K))).setCell ⟨g, i * 6 + 1, none⟩ (.int .i64 (K + 1))).setCell ⟨g, i * 6 + 2, none⟩ (.int .i64 (K + 1 + 1))) := ⟨_, rfl⟩
      have HU : Hid (SegV U g 80 n 6 (fun a j => if a = i ∧ j = 2 then .int .i64 (K + 1 + 1) else if a = i ∧ j = 1 then .int .i64 (K + 1) else if a = i ∧ j = 0 then .int .i64 K else if a < i then lcell (mkL k0 L a) (.slice (some ⟨PB a, 0, none⟩) (L a).np (PC a)) j else lcell (L a) (.slice (some ⟨PB a, 0, none⟩) (L a).np (PC a)) j) ∧ (∀ a, a < n → Seg U (PB a) 2 0 (L a).np (fun q => .int .i64 (if a < i then (mkL k0 L a).p q else (L a).p q))) ∧ Within lo hi w U) := by
        rw [hU]
        obtain ⟨h1, h2, h3⟩ := HI.out
        obtain ⟨p1, p2, p3, p4⟩ := HQ.out
        have t0 := SegV.set h1 hin (show 0 < 6 by omega) (.int .i64 K)
        have t1 := SegV.set t0 hin (show 1 < 6 by omega) (.int .i64 (K + 1))
        have t2 := SegV.set t1 hin (show 2 < 6 by omega) (.int .i64 (K + 1 + 1))
        refine ⟨t2, fun a ha => ?_, ((h3.setCell (by exact p1) (by exact p2) _).setCell (by exact p1) (by exact p2) _).setCell (by exact p1) (by exact p2) _⟩
        have hne := (p3 a ha).2.2
        exact ((((h2 a ha).setOther (by exact hne) _).setOther (by exact hne) _).setOther (by exact hne) _)
      have u3 : U.cell? ⟨g, i * 6 + 3, none⟩ = some (.slice (some ⟨PB i, 0, none⟩) m (PC i)) := by
        have := HU.out.1.cell hin (show 3 < 6 by omega)
        simpa [lcell, ← HK.out.2] using this
      have us : Seg U (PB i) 2 0 m (fun q => .int .i64 ((L i).p q)) := by
        have := HU.out.2.1 i hin
        rw [← HK.out.2] at this
        exact this.congr fun q _ => by simp
      have HUS : Hid (Seg U (PB i) 2 0 m (fun q => .int .i64 ((L i).p q))) := us
      go_upto_region 10 with fail
      rw [← hU]
      clear hU us fz a0 a1 a2 a3 a4 a5
      go_wp2_with fail
      refine (markS_some (PB i) 0 m (PC i) _ (K + 1 + 1 + 1) _ (by omega) (by omega) HUS.out).mono ?_
      rintro e w1 ⟨rfl, hs1, hw1, hz1⟩
      obtain ⟨K2, hK2⟩ : ∃ K2, K2 = K + 1 + 1 + 1 + (m : Int) := ⟨_, rfl⟩
      have HK2 : Hid (K2 = K + 1 + 1 + 1 + (m : Int)) := hK2
      have hk20 : 0 ≤ K2 := by omega
      have hk21 : K2 ≤ 300000000 := by omega
      rw [← hK2]
      clear hK2 u3
      have H1 : Hid (SegV w1 g 80 n 6 (fun a j => if a = i ∧ j = 2 then .int .i64 (K + 1 + 1) else if a = i ∧ j = 1 then .int .i64 (K + 1) else if a = i ∧ j = 0 then .int .i64 K else if a < i then lcell (mkL k0 L a) (.slice (some ⟨PB a, 0, none⟩) (L a).np (PC a)) j else lcell (L a) (.slice (some ⟨PB a, 0, none⟩) (L a).np (PC a)) j) ∧ Seg w1 (PB i) 2 0 m (fun q => .int .i64 (K + 1 + 1 + 1 + q)) ∧ (∀ a, a < n → a ≠ i → Seg w1 (PB a) 2 0 (L a).np (fun q => .int .i64 (if a < i then (mkL k0 L a).p q else (L a).p q))) ∧ Within lo hi w w1) := by
        obtain ⟨p1, p2, p3, p4⟩ := HQ.out
        have key : ∀ b, b < U.heap.size → b ≠ PB i → w1.heap[b]? = U.heap[b]? := fun b hb hn => by
          by_cases c : b < PB i
          · exact hw1.below.block b c
          · exact hw1.above b (by omega) hb
        refine ⟨HU.out.1.of_block (key g HU.out.1.lt (fun e => (p3 i hin).2.2 e.symm)), hs1, fun a ha hne => (HU.out.2.1 a ha).of_block (key _ (HU.out.2.1 a ha).lt (fun e => hne (p4 a i ha hin e))), HU.out.2.2.trans (hw1.mono (p3 i hin).1 (p3 i hin).2.1)⟩
      clear hs1 hw1 hz1
      have fz : ∀ j, w1.frozen? ⟨g, j, none⟩ = false := fun j => H1.out.1.frozen j
      have a4 := H1.out.1.cell hin (show 4 < 6 by omega)
      have a5 := H1.out.1.cell hin (show 5 < 6 by omega)
      simp [lcell] at a4 a5
      have HW : Hid (SegV ((w1.setCell ⟨g, i * 6 + 4, none⟩ (.int .i64 (K2))).setCell ⟨g, i * 6 + 5, none⟩ (.int .i64 (K2 + 1))) g 80 n 6 (fun a j => if a < i + 1 then lcell (mkL k0 L a) (.slice (some ⟨PB a, 0, none⟩) (L a).np (PC a)) j else lcell (L a) (.slice (some ⟨PB a, 0, none⟩) (L a).np (PC a)) j) ∧ (∀ a, a < n → Seg ((w1.setCell ⟨g, i * 6 + 4, none⟩ (.int .i64 (K2))).setCell ⟨g, i * 6 + 5, none⟩ (.int .i64 (K2 + 1))) (PB a) 2 0 (L a).np (fun q => .int .i64 (if a < i + 1 then (mkL k0 L a).p q else (L a).p q))) ∧ Within lo hi w ((w1.setCell ⟨g, i * 6 + 4, none⟩ (.int .i64 (K2))).setCell ⟨g, i * 6 + 5, none⟩ (.int .i64 (K2 + 1)))) := by
        obtain ⟨p1, p2, p3, p4⟩ := HQ.out
        obtain ⟨h1, h2, h3, h4⟩ := H1.out
        have t0 := SegV.set h1 hin (show 4 < 6 by omega) (.int .i64 K2)
        have t1 := SegV.set t0 hin (show 5 < 6 by omega) (.int .i64 (K2 + 1))
        refine ⟨t1.congr fun a ha j hj => ?_, fun a ha => ?_, (h4.setCell (by exact p1) (by exact p2) _).setCell (by exact p1) (by exact p2) _⟩
        · by_cases c : a = i
          · subst c
            have e3 : a < a + 1 := by omega
            have e4 := HK.out.1
            have e5 := HK.out.2
            have e6 := HK2.out
            match j, hj with
            | 0, _ => simp [lcell, mkL, ← e4, ← e5, e6]
            | 1, _ => simp [lcell, mkL, ← e4, ← e5, e6]
            | 2, _ => simp [lcell, mkL, ← e4, ← e5, e6]
            | 3, _ => simp [lcell, mkL, ← e4, ← e5, e6]
            | 4, _ => simp [lcell, mkL, ← e4, ← e5, e6]
            | 5, _ => simp [lcell, mkL, ← e4, ← e5, e6]
          · by_cases c2 : a < i
            · simp [c, c2, Nat.lt_succ_of_lt c2]
            · have : ¬ a < i + 1 := by omega
              simp [c, c2, this]
        · have hne := (p3 a ha).2.2
          by_cases c : a = i
          · subst c
            have h2' : Seg w1 (PB a) 2 0 (L a).np (fun q => .int .i64 (if a < a + 1 then (mkL k0 L a).p q else (L a).p q)) := by
              rw [← HK.out.2]
              refine h2.congr fun q hq => ?_
              rw [if_pos (by omega)]
              show Value.int .i64 (K + 1 + 1 + 1 + (q : Int)) = .int .i64 (mLs k0 L a + 1 + 1 + 1 + q)
              rw [HK.out.1]
            exact (h2'.setOther (by exact hne) _).setOther (by exact hne) _
          · refine ((Seg.congr (h3 a ha c) fun q hq => ?_ : Seg w1 (PB a) 2 0 (L a).np (fun q => .int .i64 (if a < i + 1 then (mkL k0 L a).p q else (L a).p q))).setOther (by exact hne) _).setOther (by exact hne) _
            by_cases c2 : a < i
            · rw [if_pos c2, if_pos (by omega)]
            · rw [if_neg c2, if_neg (by omega)]
      have HN2 : Hid (mLs k0 L (i + 1) = K2 + 1 + 1) := by rw [HN.out, HK2.out]; rfl
      go_wp2
      go_roundw
      case rel =>
        refine ⟨i + 1, by omega, by rw [HN2.out], by simp, ?_⟩
        first | exact HW | (simp only [Nat.add_assoc, Nat.reduceAdd]; exact HW)
      case measure => simp [intOf]; omega
    · obtain rfl : i = n := by omega
      go_wp2
      go_ret
      obtain ⟨h1, h2, h3⟩ := HI.out
      obtain ⟨p1, p2, p3, p4⟩ := HQ.out
      refine ⟨rfl, ⟨PB, PC, p1, p2, h1.congr fun a ha j _ => by rw [if_pos ha]; rfl, fun a ha => ⟨(p3 a ha).1, (p3 a ha).2.1, ?_⟩, p4⟩, h3⟩
      exact (h2 a ha).congr fun q _ => by rw [if_pos ha]
end Go.Proofs.Ytinfbbbgfkaioaa
